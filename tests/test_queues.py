"""Points 6 to 8 and 17 to 21: what a run writes, shows, leaves waiting and hides."""

import unittest

from conflate.errors import InvalidRun
from conflate.keys import is_counted, is_run, keys_of
from conflate.queues import (
    earliest_run, first_fault, hidden_in, shown_by, waiting_after, writes_of,
)
from tests import values
from tests.values import SEND, events, w


class Examples(unittest.TestCase):
    def test_shown_by(self):
        self.assertEqual(shown_by(events("ab!ab!!")), [("a", 1), ("b", 2), ("a", 2)])

    def test_waiting_after(self):
        self.assertEqual(waiting_after(events("ab!abb")), [("b", 3), ("a", 2)])

    def test_hidden_in(self):
        found = [hidden_in(events("ab!ab!!")), hidden_in(events("aabb!"))]
        self.assertEqual(found, [[("b", 1)], [("a", 1), ("b", 1)]])

    def test_first_fault(self):
        self.assertEqual([first_fault(events("a!!a")), first_fault(events("aa!"))], [2, None])

    def test_earliest_run(self):
        self.assertEqual(earliest_run(events("ab!ab!!")), events("a!bab!!"))


class Ordinary(unittest.TestCase):
    def check(self, text, shown, waiting, hidden, earliest):
        run = events(text)
        with self.subTest(text=text):
            self.assertEqual(writes_of(run), list(text.replace("!", "")))
            self.assertEqual(shown_by(run), shown)
            self.assertEqual(waiting_after(run), waiting)
            self.assertEqual(hidden_in(run), hidden)
            self.assertIsNone(first_fault(run))
            self.assertEqual(earliest_run(run), events(earliest))

    def test_empty_run(self):
        self.check("", [], [], [], "")

    def test_no_send(self):
        self.check("a", [], [("a", 1)], [], "a")
        self.check("bab", [], [("b", 2), ("a", 1)], [("b", 1)], "bab")
        self.check("aaa", [], [("a", 3)], [("a", 1), ("a", 2)], "aaa")

    def test_one_key(self):
        self.check("a!", [("a", 1)], [], [], "a!")
        self.check("aa!", [("a", 2)], [], [("a", 1)], "aa!")
        self.check("a!a!", [("a", 1), ("a", 2)], [], [], "a!a!")
        self.check("aaa!aa!a", [("a", 3), ("a", 5)], [("a", 6)], [("a", 1), ("a", 2), ("a", 4)], "aaa!aa!a")

    def test_a_write_of_a_waiting_key_keeps_its_place(self):
        self.check("aba!!", [("a", 2), ("b", 1)], [], [("a", 1)], "aba!!")
        self.check("abcbaa!", [("a", 3)], [("b", 2), ("c", 1)], [("a", 1), ("a", 2), ("b", 1)], "abcbaa!")

    def test_a_shown_key_enters_again_at_the_end(self):
        self.check("ab!a", [("a", 1)], [("b", 1), ("a", 2)], [], "a!ba")
        self.check("ba!b!!", [("b", 1), ("a", 1), ("b", 2)], [], [], "b!a!b!")

    def test_sends_stand_as_early_as_possible(self):
        self.check("abc!!!", [("a", 1), ("b", 1), ("c", 1)], [], [], "a!b!c!")
        self.check("cba!!!", [("c", 1), ("b", 1), ("a", 1)], [], [], "c!b!a!")
        self.check("abcc!!", [("a", 1), ("b", 1)], [("c", 2)], [("c", 1)], "a!b!cc")
        self.check("abcab!!!", [("a", 2), ("b", 2), ("c", 1)], [], [("a", 1), ("b", 1)], "abca!b!!")

    def test_hidden_writes_ascend(self):
        run = [w(key) for key in ["k2", "k10", "k2", "k10", "k2", "ka", "ka"]] + [SEND]
        self.assertEqual(hidden_in(run), [("k10", 1), ("k2", 1), ("k2", 2), ("ka", 1)])
        many = [w("b")] * 12 + [w("a")] * 11
        expected = [("a", count) for count in range(1, 11)] + [("b", count) for count in range(1, 12)]
        self.assertEqual(hidden_in(many), expected)

    def test_keys_named_like_events(self):
        run = [w("send"), w("write"), SEND, SEND]
        self.assertEqual(writes_of(run), ["send", "write"])
        self.assertEqual(shown_by(run), [("send", 1), ("write", 1)])
        self.assertEqual(earliest_run(run), [w("send"), SEND, w("write"), SEND])


class Faults(unittest.TestCase):
    def test_places(self):
        for text, place in [
            ("!", 0), ("!a!", 0), ("!!", 0), ("a!!", 2), ("aa!!", 3), ("aa!!a!!", 3), ("aba!!!", 5),
            ("a!b!!a!!", 4), ("a!a!a!!", 6), ("ab!!ab!!!", 8),
        ]:
            with self.subTest(text=text):
                self.assertEqual(first_fault(events(text)), place)
                self.assertIs(type(first_fault(events(text))), int)

    def test_no_fault(self):
        for text in ["", "a", "a!", "aa!", "ab!!", "a!a!", "ab!a!!", "ba!b!!ab!!"]:
            with self.subTest(text=text):
                self.assertIsNone(first_fault(events(text)))

    def test_long_lists(self):
        run = values.long_run()
        self.assertIsNone(first_fault(run))
        self.assertEqual(len(waiting_after(run)), 1)
        self.assertEqual(first_fault(run + [SEND] * 2), 1001)
        self.assertEqual(first_fault([w("a")] * 999 + [SEND, SEND]), 1000)
        self.assertEqual(first_fault([SEND] * 1000), 0)

    def test_small_event_lists(self):
        for keys, length in [("a", 7), ("ab", 6), ("abc", 5)]:
            for given in values.all_event_lists(keys, length):
                if first_fault(given) != values.played_by_the_book(given)[3]:
                    self.fail(repr(given))


class AllSmallRuns(unittest.TestCase):
    def test_writes_shown_waiting_and_hidden(self):
        for run, _, shown, waiting in values.small_runs():
            keys = [event[1] for event in run if event != SEND]
            written = [(key, keys[:at + 1].count(key)) for at, key in enumerate(keys)]
            hidden = sorted(write for write in written if write not in shown + waiting)
            found = (writes_of(run), shown_by(run), waiting_after(run), hidden_in(run))
            if found != (keys, shown, waiting, hidden):
                self.fail(repr(run))

    def test_the_log_is_a_counted_log(self):
        for run, _, shown, _ in values.small_runs():
            self.assertIs(is_counted(shown_by(run)), True)
            self.assertEqual(keys_of(shown_by(run)), [key for key, _ in shown])

    def test_earliest_of_all_runs_with_the_same_writes_and_log(self):
        alike = {}
        for run, _, shown, _ in values.small_runs():
            keys = tuple(event[1] for event in run if event != SEND)
            alike.setdefault((keys, tuple(shown)), []).append(run)
        for runs in alike.values():
            least = [min(places) for places in zip(*[send_places(run) for run in runs])]
            best = [run for run in runs if send_places(run) == least]
            self.assertEqual(len(best), 1)
            for run in runs:
                if earliest_run(run) != best[0]:
                    self.fail(repr(run))


def send_places(run):
    return [at for at, event in enumerate(run) if event == SEND]


class Long(unittest.TestCase):
    def test_thousand_events_of_200_keys(self):
        run = values.long_run()
        self.assertEqual(len(run), 1000)
        _, shown, waiting, _ = values.played_by_the_book(run)
        self.assertEqual(len(writes_of(run)) + len(shown), 1000)
        self.assertEqual(shown_by(run), shown)
        self.assertEqual(waiting_after(run), waiting)
        keys = writes_of(run)
        written = {(key, count) for key in set(keys) for count in range(1, keys.count(key) + 1)}
        self.assertEqual(hidden_in(run), sorted(written - set(shown) - set(waiting)))
        self.check_earliest(run)

    def test_thousand_events_of_one_key(self):
        run = [w("a")] * 998 + [SEND, w("a")]
        self.assertEqual(shown_by(run), [("a", 998)])
        self.assertEqual(waiting_after(run), [("a", 999)])
        self.assertEqual(hidden_in(run), [("a", count) for count in range(1, 998)])
        self.assertEqual(earliest_run(run), run)

    def test_sends_at_the_end(self):
        keys = [f"k{number}" for number in range(200)]
        run = [w(key) for key in keys] + [SEND] * 200
        expected = [event for key in keys for event in (w(key), SEND)]
        self.assertEqual(earliest_run(run), expected)
        self.assertEqual(earliest_run(expected), expected)

    def check_earliest(self, run):
        early = earliest_run(run)
        self.assertIs(is_run(early), True)
        self.assertEqual(writes_of(early), writes_of(run))
        self.assertEqual(shown_by(early), shown_by(run))
        self.assertEqual(earliest_run(early), early)
        # Each send comes after as many writes as the latest write shown up to it needs.
        keys = writes_of(run)
        needed, made, sent = 0, 0, 0
        for event in early:
            if event == SEND:
                key, count = shown_by(run)[sent]
                numbers = [number for number, other in enumerate(keys, 1) if other == key]
                needed = max(needed, numbers[count - 1])
                self.assertEqual(made, needed)
                sent += 1
            else:
                made += 1


class Wrong(unittest.TestCase):
    def check(self, function, value):
        with self.assertRaises(InvalidRun) as caught:
            function(value)
        self.assertIs(type(caught.exception), InvalidRun)

    def test_values_that_are_no_runs(self):
        for value in values.wrong_runs():
            for function in (writes_of, shown_by, waiting_after, hidden_in, earliest_run):
                self.check(function, value)

    def test_values_that_are_no_lists_of_events(self):
        for value in values.wrong_event_lists():
            self.check(first_fault, value)


if __name__ == "__main__":
    unittest.main()
