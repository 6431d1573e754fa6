"""Points 5, 7 and 14 to 16: keys, logs, counted logs, runs, counts, previous items, entries."""

import unittest

from conflate.errors import InvalidLog
from conflate.keys import (
    entries_of, is_counted, is_key, is_log, is_run, keys_of, last_counts, previous_items,
)
from tests import values
from tests.values import LOWER, REST, SEND, events, w


class Keys(unittest.TestCase):
    def check(self, value, expected):
        with self.subTest(value=value):
            self.assertIs(is_key(value), expected)

    def test_example(self):
        self.assertEqual([is_key("price_2"), is_key("2nd"), is_key("")], [True, False, False])

    def test_each_sign_of_the_table_in_each_place(self):
        for code in range(0, 300):
            sign = chr(code)
            self.check(sign, sign in LOWER)
            for length in range(2, 13):
                for place in range(1, length):
                    key = "k" * place + sign + "k" * (length - place - 1)
                    if is_key(key) is not (sign in REST):
                        self.fail(repr(key))
                self.assertIs(is_key(sign + "k" * (length - 1)), sign in LOWER)

    def test_lengths(self):
        for length in range(1, 13):
            self.check("a" * length, True)
            self.check("z" + "_9" * ((length - 1) // 2), True)
        for length in [0, 13, 14, 100, 4000]:
            self.check("a" * length, False)

    def test_wrong_values(self):
        for value in values.wrong_keys():
            self.assertIs(is_key(value), False)


class Logs(unittest.TestCase):
    def test_example(self):
        self.assertEqual([is_log(["a", "b", "a"]), is_log(("a", "b"))], [True, False])

    def test_right_values(self):
        keys = [f"k{number}" for number in range(200)]
        for value in [[], ["a"], ["a", "a", "a"], ["a" * 12, "z_9"], keys, ["send", "write"]]:
            with self.subTest(value=value):
                self.assertIs(is_log(value), True)

    def test_wrong_values(self):
        for value in values.wrong_logs():
            self.assertIs(is_log(value), False)

    def test_a_wrong_key_at_each_place(self):
        for place in range(200):
            log = ["a"] * 200
            log[place] = "A"
            self.assertIs(is_log(log), False)

    def test_a_counted_log_is_no_log(self):
        self.assertIs(is_log([("a", 1)]), False)
        self.assertIs(is_counted(["a"]), False)


class CountedLogs(unittest.TestCase):
    def test_example(self):
        self.assertEqual(
            [is_counted([("a", 1), ("b", 7), ("a", 3)]), is_counted([("a", 2), ("a", 2)])],
            [True, False],
        )

    def test_right_values(self):
        for value in [
            [], [("a", 1)], [("a", 5)], [("a", 1), ("a", 2)], [("b", 2), ("a", 1), ("b", 5)],
            [("b", 9), ("a", 1)], [("a", 9), ("a", 10)], [("a", 1), ("b", 1), ("a", 2), ("b", 2)],
            [("a" * 12, 10 ** 30)], [("a", 10 ** 30 - 1), ("b", 1), ("a", 10 ** 30)],
            [("b", 3), ("a", 2), ("c", 1)], values.long_counted(),
        ]:
            with self.subTest(value=value):
                self.assertIs(is_counted(value), True)

    def test_wrong_values(self):
        for value in values.wrong_counted():
            self.assertIs(is_counted(value), False)

    def test_counts_must_increase_at_each_place(self):
        for place in range(1, 200):
            counted = [("a", 10 ** 29 + item) for item in range(200)]
            counted[place] = ("a", 10 ** 29 + place - 1)
            self.assertIs(is_counted(counted), False)


class Runs(unittest.TestCase):
    def test_example(self):
        self.assertEqual(
            [
                is_run([("write", "a"), ("send",)]),
                is_run([("write", "a"), ("send",), ("send",)]),
            ],
            [True, False],
        )

    def test_right_values(self):
        for text in ["", "a", "aa", "a!", "aa!", "ab!!", "aba!!", "ab!a!!", "a!a!", "a!a!ab!!ab", "ba!b!!"]:
            with self.subTest(text=text):
                self.assertIs(is_run(events(text)), True)
        self.assertIs(is_run([w("send"), w("write"), SEND, SEND]), True)
        self.assertIs(is_run([w("a" * 12)]), True)
        self.assertIs(is_run(values.long_run()), True)
        self.assertIs(is_run(values.long_run() + [SEND] * 3), False)

    def test_wrong_values(self):
        for value in values.wrong_runs():
            self.assertIs(is_run(value), False)

    def test_small_event_lists(self):
        for length in range(7):
            for given in values.all_event_lists("ab", length):
                fault = values.played_by_the_book(given)[3]
                if is_run(given) is not (fault is None):
                    self.fail(repr(given))


class OfALog(unittest.TestCase):
    def test_examples(self):
        counted = [("b", 2), ("a", 1), ("b", 5)]
        self.assertEqual(keys_of(counted), ["b", "a", "b"])
        self.assertEqual(last_counts(counted), {"a": 1, "b": 5})
        self.assertEqual(previous_items(["b", "a", "b", "b"]), [None, None, 0, 2])
        self.assertEqual(entries_of(counted), [("b", 1), ("a", 1), ("b", 3)])

    def test_empty_log(self):
        self.assertEqual(keys_of([]), [])
        self.assertEqual(last_counts([]), {})
        self.assertEqual(previous_items([]), [])
        self.assertEqual(entries_of([]), [])

    def test_one_item(self):
        self.assertEqual(keys_of([("a", 10 ** 30)]), ["a"])
        self.assertEqual(last_counts([("a", 10 ** 30)]), {"a": 10 ** 30})
        self.assertEqual(previous_items(["a"]), [None])
        self.assertEqual(entries_of([("a", 10 ** 30)]), [("a", 1)])
        self.assertEqual(entries_of([("a", 1)]), [("a", 1)])

    def test_several_items(self):
        counted = [("c", 1), ("a", 4), ("c", 2), ("a", 5), ("b", 3), ("a", 9), ("c", 7)]
        self.assertEqual(keys_of(counted), ["c", "a", "c", "a", "b", "a", "c"])
        self.assertEqual(last_counts(counted), {"a": 9, "b": 3, "c": 7})
        self.assertEqual(previous_items(keys_of(counted)), [None, None, 0, 1, None, 3, 2])
        self.assertEqual(
            entries_of(counted),
            [("c", 1), ("a", 1), ("c", 2), ("a", 5), ("b", 1), ("a", 6), ("c", 3)],
        )

    def test_dict_keys_ascend(self):
        for keys in ["cab", "abc", "zyx", "bab"]:
            counted = [(key, place + 1) for place, key in enumerate(keys)]
            self.assertEqual(list(last_counts(counted)), sorted(set(keys)))
        names = ["k2", "k10", "k_", "k", "ka", "k1"]
        counts = last_counts([(name, 1) for name in names])
        self.assertEqual(list(counts), ["k", "k1", "k10", "k2", "k_", "ka"])

    def test_long_counted_log(self):
        counted = values.long_counted()
        keys = [write[0] for write in counted]
        self.assertEqual(keys_of(counted), keys)
        self.assertEqual(last_counts(counted), dict(sorted(dict(counted).items())))
        entries, previous = [], []
        for item, key in enumerate(keys):
            before = [other for other in range(item) if keys[other] == key]
            previous.append(before[-1] if before else None)
            entries.append((key, counted[before[-1]][1] + 1 if before else 1))
        self.assertEqual(previous_items(keys), previous)
        self.assertEqual(entries_of(counted), entries)

    def test_many_keys(self):
        counted = [(f"k{number}", 10 ** 30) for number in reversed(range(200))]
        self.assertEqual(previous_items(keys_of(counted)), [None] * 200)
        self.assertEqual(entries_of(counted), [(key, 1) for key, _ in counted])
        self.assertEqual(list(last_counts(counted)), sorted(key for key, _ in counted))

    def test_entries_are_the_writes_that_enter(self):
        for given, entries, shown, _ in values.small_runs():
            if entries_of(shown) != entries:
                self.fail(repr(given))

    def test_wrong_values(self):
        for value in values.wrong_counted():
            for function in (keys_of, last_counts, entries_of):
                with self.assertRaises(InvalidLog) as caught:
                    function(value)
                self.assertIs(type(caught.exception), InvalidLog)
        for value in values.wrong_logs() + [[("a", 1)], [("a", 1), ("b", 1)]]:
            with self.assertRaises(InvalidLog) as caught:
                previous_items(value)
            self.assertIs(type(caught.exception), InvalidLog)


if __name__ == "__main__":
    unittest.main()
