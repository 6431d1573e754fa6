"""Points 36 to 40: which logs given writes can produce."""

import itertools
import random
import unittest

from conflate.errors import InvalidLog, InvalidNumber, InvalidWrites, TooLarge
from conflate.given import count_logs, first_wrong, is_log_of, log_number, next_items, nth_log, run_of
from conflate.keys import is_counted
from conflate.queues import earliest_run, shown_by, writes_of
from tests import sources, values
from tests.values import SEND, events, w

ABAB = ["a", "b", "a", "b"]
ABA = ["a", "b", "a"]
SIX = list("abcdef")
SEVEN = list("abcdefg")
WITH_COUNTED = (next_items, is_log_of, first_wrong, log_number, run_of)


def small_words():
    """All words of at most 5 writes, and of 6 over two keys, but for the names of the keys."""
    words = [word for length in range(6) for word in sources.first_words(length, "abcde")]
    return words + sources.first_words(6, "ab") + ["abcabc", "abccba", "abcdab", "aabbcc", "abcdef"]


class Examples(unittest.TestCase):
    def test_next_items(self):
        found = [next_items(ABAB, counted) for counted in [[], [("a", 2)], [("a", 1), ("b", 2)]]]
        self.assertEqual(found, [[("a", 1), ("a", 2)], [("b", 1), ("b", 2)], [("a", 2)]])

    def test_is_log_of_and_first_wrong(self):
        found = [is_log_of(ABAB, [("a", 1), ("b", 2)]), first_wrong(ABAB, [("a", 1), ("a", 2)])]
        self.assertEqual(found, [True, 1])

    def test_count_and_nth(self):
        found = [count_logs(ABA)] + [nth_log(ABA, number) for number in [0, 3, 4]]
        self.assertEqual(found, [6, [], [("a", 1), ("b", 1), ("a", 2)], [("a", 2)]])

    def test_number(self):
        self.assertEqual(log_number(ABA, [("a", 2), ("b", 1)]), 5)

    def test_run_of(self):
        self.assertEqual(run_of(ABA, [("a", 1), ("b", 1)]), events("a!b!a"))


class Ordinary(unittest.TestCase):
    def test_what_the_next_send_can_show(self):
        # The key that waits first, with its present count or a later one.
        self.assertEqual(next_items(["a", "b", "b", "a"], [("a", 2)]), [("b", 2)])
        self.assertEqual(next_items(["a", "b", "b", "a", "b"], [("a", 2)]), [("b", 2), ("b", 3)])
        # No key waits: the next written one, from this write on.
        self.assertEqual(next_items(["a", "b", "b", "a", "b"], [("a", 1)]), [("b", 1), ("b", 2), ("b", 3)])
        self.assertEqual(next_items(["a", "a", "b", "a"], [("a", 2)]), [("b", 1)])
        # Nothing is left.
        self.assertEqual(next_items(["a", "b"], [("a", 1), ("b", 1)]), [])
        self.assertEqual(next_items(["a", "a"], [("a", 2)]), [])
        self.assertEqual(next_items(["a", "b"], [("a", 1)]), [("b", 1)])

    def test_kinds(self):
        self.assertIs(is_log_of(ABAB, [("a", 1)]), True)
        self.assertIs(is_log_of(ABAB, [("b", 1)]), False)
        self.assertIsNone(first_wrong(ABAB, [("a", 1)]))
        self.assertIs(type(first_wrong(ABAB, [("b", 1)])), int)
        for write in next_items(ABAB, []) + nth_log(ABAB, 5):
            self.assertIs(type(write), tuple)
            self.assertEqual([type(part) for part in write], [str, int])

    def test_keys_keep_their_names(self):
        writes = ["price_2", "z", "price_2", "a_long_name_"]
        self.assertEqual(next_items(writes, []), [("price_2", 1), ("price_2", 2)])
        self.assertEqual(nth_log(writes, count_logs(writes) - 1), [("price_2", 2), ("z", 1), ("a_long_name_", 1)])
        self.assertEqual(log_number(writes, [("price_2", 1)]), 1)
        self.assertEqual(run_of(writes, [("price_2", 2)]), [w(key) for key in writes[:3]] + [SEND, w(writes[3])])

    def test_logs_that_are_none_of_these_writes(self):
        for counted, item in [
            ([("c", 1)], 0), ([("b", 1)], 0), ([("a", 3)], 0), ([("a", 10 ** 30)], 0), ([("a", 1), ("b", 3)], 1),
            ([("a", 2), ("b", 10 ** 30)], 1), ([("a", 2), ("a", 3)], 1), ([("a", 1), ("b", 1), ("a", 2), ("b", 3)], 3),
            ([("a", 2), ("b", 1), ("b", 2), ("c", 1)], 3), ([("a", 1), ("b", 2), ("b", 10 ** 30)], 2),
        ]:
            with self.subTest(counted=counted):
                self.assertEqual(first_wrong(ABAB, counted), item)
                self.assertIs(is_log_of(ABAB, counted), False)
                for function in (next_items, log_number, run_of):
                    with self.assertRaises(InvalidLog):
                        function(ABAB, counted)


class Edges(unittest.TestCase):
    def test_no_writes(self):
        self.assertEqual([count_logs([]), nth_log([], 0), log_number([], [])], [1, [], 0])
        self.assertEqual([next_items([], []), run_of([], []), first_wrong([], [])], [[], [], None])
        self.assertIs(is_log_of([], []), True)
        self.assertEqual(first_wrong([], [("a", 1)]), 0)
        with self.assertRaises(InvalidNumber):
            nth_log([], 1)

    def test_the_empty_log(self):
        for writes in (["a"], ABAB, SIX):
            self.assertIs(is_log_of(writes, []), True)
            self.assertEqual([log_number(writes, []), nth_log(writes, 0)], [0, []])
            self.assertEqual(run_of(writes, []), [w(key) for key in writes])

    def test_one_key(self):
        # Each choice of the counts is a log.
        for many in (1, 2, 7, 59, 60):
            writes = ["a"] * many
            self.assertEqual(count_logs(writes), 2 ** many)
            self.assertEqual(nth_log(writes, 2 ** many - 1), [("a", many)])
            self.assertEqual(next_items(writes, []), [("a", count) for count in range(1, many + 1)])
        self.assertEqual(nth_log(["a"] * 60, 60), [("a", count) for count in range(1, 61)])
        self.assertEqual(log_number(["a"] * 60, [("a", 2)]), 2 ** 59 + 1)

    def test_different_keys(self):
        for many in range(7):
            # Only the first so many of them.
            found = [nth_log(SIX[:many], number) for number in range(count_logs(SIX[:many]))]
            self.assertEqual(found, [[(key, 1) for key in SIX[:part]] for part in range(many + 1)])

    def test_sixty_writes_of_six_keys(self):
        chance = random.Random(2)
        for writes in (SIX * 10, sorted(SIX * 10), [chance.choice(SIX) for _ in range(60)], (SIX + SIX[::-1]) * 5):
            many = count_logs(writes)
            last = None
            for number in [0, 1, 2] + sorted(chance.randrange(many) for _ in range(5)) + [many - 1]:
                counted = nth_log(writes, number)
                self.assertIs(is_counted(counted), True)
                self.assertIs(is_log_of(writes, counted), True)
                self.assertEqual(log_number(writes, counted), number)
                self.check_run(writes, counted)
                if last is not None:
                    self.assertLessEqual(last, counted)
                last = counted
            self.assertEqual(next_items(writes, last), [])
            with self.assertRaises(InvalidNumber):
                nth_log(writes, many)

    def test_walk_along_the_next_items(self):
        chance = random.Random(8)
        for _ in range(5):
            writes = [chance.choice(SIX) for _ in range(60)]
            counted, following = [], next_items(writes, [])
            while following:
                counted.append(chance.choice(following))
                self.check_run(writes, counted)
                following = next_items(writes, counted)

    def check_run(self, writes, counted):
        run = run_of(writes, counted)
        _, shown, _, fault = values.played_by_the_book(run)
        self.assertEqual([shown, fault], [counted, None])
        self.assertEqual(writes_of(run), writes)
        self.assertEqual(earliest_run(run), run)

    def test_six_keys_and_seven(self):
        for writes, counted in [(SIX * 10, [("a", 1)]), (SIX, [("a", 1)])]:
            self.assertIs(is_log_of(writes, counted), True)
            self.assertGreater(count_logs(writes), 2)
        for writes in (SEVEN, SEVEN * 8, SEVEN + ["a"] * 53, ["a"] * 53 + SEVEN):
            for function, *more in each_with([], 0) + each_with([("a", 1)], "0") + each_with([("z", 1)], -1):
                with self.assertRaises(TooLarge) as caught:
                    function(writes, *more)
                self.assertIs(type(caught.exception), TooLarge)
                self.assertEqual(caught.exception.limit, 6)

    def test_sixty_writes_and_one_more(self):
        for writes in (["a"] * 60, SIX * 10):
            self.assertIs(is_log_of(writes, [("a", 1)]), True)
        for writes in (["a"] * 61, SIX * 10 + ["a"], SEVEN * 9, ["a"] * 1000):
            for function, *more in each_with([], 0):
                with self.assertRaises(InvalidWrites):
                    function(writes, *more)


def each_with(counted, number):
    """Each function with what stands behind the writes."""
    return [(function, counted) for function in WITH_COUNTED] + [(count_logs,), (nth_log, number)]


class AllSmallWords(unittest.TestCase):
    def test_numbers(self):
        for word in small_words():
            writes, logs = list(word), sources.logs_of_writes(word)
            self.assertEqual(count_logs(writes), len(logs))
            self.assertEqual([nth_log(writes, number) for number in range(len(logs))], logs)
            self.assertEqual([log_number(writes, counted) for counted in logs], list(range(len(logs))))

    def test_next_items(self):
        for word in small_words():
            logs = sources.logs_of_writes(word)
            for counted in logs:
                following = [log[-1] for log in logs if log and log[:-1] == counted]
                self.assertEqual(next_items(list(word), counted), following)

    def test_runs(self):
        for word in small_words():
            for shown, runs in sources.runs_of_writes(tuple(word)).items():
                best = min(runs, key=lambda run: [at for at, event in enumerate(run) if event == SEND])
                self.assertEqual(run_of(list(word), list(shown)), best)

    def test_logs_and_others(self):
        for word in sources.first_words(4, "abc") + ["abab", "abcab", "aabba"]:
            logs = sources.logs_of_writes(word)
            greatest = {key: word.count(key) + 1 for key in set(word[:3])}
            for counted in sources.counted_logs(greatest):
                wrong = [item for item in range(len(counted)) if counted[:item + 1] not in logs]
                self.assertEqual(first_wrong(list(word), counted), min(wrong, default=None))
                self.assertIs(is_log_of(list(word), counted), counted in logs)


class Wrong(unittest.TestCase):
    def check(self, error, function, *arguments):
        with self.assertRaises(error) as caught:
            function(*arguments)
        self.assertIs(type(caught.exception), error)

    def test_writes(self):
        for value in values.wrong_logs():
            for function, *more in each_with([], 0):
                self.check(InvalidWrites, function, value, *more)

    def test_counted(self):
        for value in values.wrong_counted():
            for function in WITH_COUNTED:
                self.check(InvalidLog, function, ABAB, value)

    def test_number(self):
        for writes in ([], ABA, ["a"] * 60):
            for value in values.wrong_numbers(0, count_logs(writes) - 1):
                self.check(InvalidNumber, nth_log, writes, value)

    def test_the_first_error_is_raised(self):
        for function in WITH_COUNTED:
            self.check(InvalidWrites, function, ["A"], [("A", 1)])
            self.check(InvalidWrites, function, ["a"] * 61, [("A", 1)])
            self.check(InvalidWrites, function, SEVEN * 9, None)
            self.check(InvalidLog, function, SEVEN, [("a", 0)])
            self.check(InvalidLog, function, SEVEN, values.Hostile())
            self.check(TooLarge, function, SEVEN, [("b", 1)])
        self.check(InvalidWrites, count_logs, SEVEN * 9)
        self.check(InvalidWrites, nth_log, SEVEN * 9, None)
        self.check(TooLarge, nth_log, SEVEN, None)
        self.check(TooLarge, nth_log, SEVEN, 10 ** 30)

    def test_one_wrong_write_at_each_place(self):
        for place, wrong in itertools.product((0, 30, 59), values.wrong_keys()):
            writes = SIX * 10
            writes[place] = wrong
            self.check(InvalidWrites, count_logs, writes)


if __name__ == "__main__":
    unittest.main()
