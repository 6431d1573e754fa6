"""Points 4, 9 and 31 to 35: chains of queues, and what a log at their end says."""

import itertools
import random
import unittest

from conflate.chains import (
    is_chain, is_reversed, is_sure_through, reversed_chain, sure_depth, sure_from, traced,
)
from conflate.errors import InvalidChain, InvalidItem, InvalidLog, InvalidNumber
from tests import reference, values
from tests.values import SEND, events, w

LOG = ["b", "a", "a", "c"]
MOST = 10 ** 30
OF_TWO_ITEMS = (is_sure_through, reversed_chain)
LONG_LOGS = [
    ["b"] + ["a"] * 199,
    ["b"] + [f"k{number % 3}" for number in range(199)],
    [f"k{number}" for number in range(200)],
    [f"k{number // 2}" for number in range(200)],
    ["first"] + [f"k{number % 7}" for number in range(198)] + ["first"],
    [random.Random(1).choice("abcdefghijklmnopqrst") for _ in range(200)],
]


def pass_on(keys):
    """A run that sends each write at once."""
    return [event for key in keys for event in (w(key), SEND)]


def pairs_of(log):
    return itertools.combinations(range(len(log)), 2)


def small_chains():
    """All chains of two runs of at most 4 events over two keys."""
    runs = [events(text) for length in range(5) for text in map("".join, itertools.product("ab!", repeat=length))]
    runs = [run for run in runs if values.played_by_the_book(run)[3] is None]
    return [[one, two] for one in runs for two in runs]


class Examples(unittest.TestCase):
    def test_is_chain(self):
        one, two = events("b!aba!!"), events("bab!!")
        self.assertEqual([is_chain([one, two]), is_chain([two, one])], [True, False])

    def test_traced(self):
        one, two = events("aba!!"), events("ab!!")
        self.assertEqual([traced([one]), traced([one, two])], [[2, 1], [2, 1]])

    def test_is_sure_through_and_sure_from(self):
        self.assertEqual([is_sure_through(LOG, queues, 0, 3) for queues in [1, 2]], [True, False])
        self.assertEqual([sure_from(LOG, queues, 0) for queues in [1, 2]], [2, None])
        self.assertEqual([sure_from(["a", "b", "a", "c"], queues, 0) for queues in [1, 10 ** 30]], [2, 2])

    def test_sure_depth(self):
        found = [sure_depth(LOG, 0, second) for second in [1, 2, 3]] + [sure_depth(["a", "b", "a", "c"], 0, 3)]
        self.assertEqual(found, [0, 1, 1, None])

    def test_reversed_chain(self):
        chain = reversed_chain(LOG, 2, 0, 3)
        places = traced(chain)
        found = [len(chain) <= 2, len(places), places[3] < places[0], reversed_chain(LOG, 1, 0, 3)]
        self.assertEqual(found, [True, 4, True, None])

    def test_is_reversed(self):
        run = events("aba!!")
        found = [
            is_reversed(["a", "b"], 1, 0, 1, [run]), is_reversed(["a", "b"], 1, 0, 1, []),
            is_reversed(["b", "a"], 1, 0, 1, [run]),
        ]
        self.assertEqual(found, [True, False, False])


class Chains(unittest.TestCase):
    def check(self, chain, expected):
        with self.subTest(chain=chain):
            self.assertIs(is_chain(chain), expected is not None)
            if expected is None:
                with self.assertRaises(InvalidChain) as caught:
                    traced(chain)
                self.assertIs(type(caught.exception), InvalidChain)
            else:
                self.assertEqual(traced(chain), expected)

    def test_one_run(self):
        for run, _, _, _ in values.small_runs()[::7]:
            self.check([run], reference.places_of_shown(run))

    def test_two_runs(self):
        for chain in small_chains():
            expected = reference.traced_by_hand(chain)
            if is_chain(chain) is not (expected is not None):
                self.fail(repr(chain))
            if expected is not None:
                self.assertEqual(traced(chain), expected)

    def test_empty_runs(self):
        self.check([], None)
        self.check([[]], [])
        self.check([[], []], [])
        self.check([[]] * 200, [])
        self.check([events("ab"), []], [])
        self.check([events("ab"), [], []], [])
        self.check([[], events("a")], None)
        self.check([events("a!"), []], None)
        self.check([[], [], events("a!")], None)

    def test_writes_are_what_the_run_before_shows(self):
        self.check([events("ab!!"), events("ab!!")], [0, 1])
        self.check([events("aab!!"), events("ab!!")], [1, 2])
        self.check([events("ab!!"), events("ba!!")], None)
        self.check([events("ab!!"), events("a!")], None)
        self.check([events("ab!!"), events("abb!!")], None)
        self.check([events("ab!!a"), events("ab!!")], [0, 1])
        self.check([events("ab!!"), events("ab!")], [0])
        self.check([events("ab!!"), events("ab!"), events("a")], [])
        self.check([events("ab!!"), events("ab!"), events("ab")], None)
        self.check([events("aba!!a!"), events("aba!!"), events("ab!!")], [3, 1])

    def test_200_runs(self):
        keys = list("abcabcc")
        self.check([pass_on(keys)] * 200, list(range(7)))
        self.check([events("abacb!!!")] + [pass_on("abc")] * 199, [2, 4, 3])
        self.check([pass_on("abc")] * 100 + [pass_on("acb")] + [pass_on("abc")] * 99, None)
        self.check([pass_on("abc")] * 199 + [pass_on("ab")], None)
        self.check([pass_on("abc")] * 199 + [pass_on("abc") + [SEND]], None)

    def test_values_that_are_no_chains(self):
        for value in values.plain_values() + [0, 1, "", "a", (), ([],), {}, {0: []}, iter([[]]), range(1)]:
            self.check(value, None)
        self.check(values.nested_in_itself(), None)
        self.check((events("a!"), events("a!")), None)
        self.check(events("a!"), None)
        self.check(["a"], None)

    def test_chains_with_a_part_that_is_no_run(self):
        for run in values.wrong_runs():
            for chain in ([run], [run, []], [[], run], [events("ab!"), run], [events("ab"), [], run]):
                self.assertIs(is_chain(chain), False)
                with self.assertRaises(InvalidChain):
                    traced(chain)


class ShortLogs(unittest.TestCase):
    def test_sure_through(self):
        """All logs of at most 6 items, against the steps from repeat end to repeat end."""
        for log in reference.logs_up_to(6):
            for first, second in pairs_of(log):
                for queues in [1, 2, 3, 4, 5, 6, 7, MOST]:
                    sure = reference.surely_through(log, queues, first, second)
                    with self.subTest(log=log, queues=queues, first=first, second=second):
                        self.assertIs(is_sure_through(log, queues, first, second), sure)

    def test_sure_from(self):
        for log in reference.logs_up_to(6):
            for first in range(len(log)):
                for queues in [1, 2, 3, 4, 5, MOST]:
                    sure = [
                        second for second in range(first + 1, len(log))
                        if reference.surely_through(log, queues, first, second)
                    ]
                    found = sure_from(log, queues, first)
                    with self.subTest(log=log, queues=queues, first=first):
                        self.assertEqual(found, min(sure, default=None))
                        self.assertEqual(sure, [] if found is None else list(range(found, len(log))))

    def test_sure_depth(self):
        for log in reference.logs_up_to(6):
            for first, second in pairs_of(log):
                depth = 0
                while depth < 7 and reference.surely_through(log, depth + 1, first, second):
                    depth += 1
                if depth == 7:
                    depth = None
                with self.subTest(log=log, first=first, second=second):
                    self.assertEqual(sure_depth(log, first, second), depth)

    def test_all_chains_of_one_and_two_runs(self):
        """All logs of at most 4 items, against all chains of runs that hide at most one write."""
        for log in reference.logs_up_to(4):
            for first, second in pairs_of(log):
                for queues in (1, 2):
                    with self.subTest(log=log, queues=queues, first=first, second=second):
                        self.assertEqual(
                            is_sure_through(log, queues, first, second),
                            not reference.can_reverse(log, queues, first, second, 1),
                        )

    def test_chains_of_three_runs(self):
        for text, first, second in [("baaa", 0, 3), ("abbb", 0, 3), ("aaaa", 0, 1), ("baab", 0, 3)]:
            for queues in (1, 2, 3):
                self.assertEqual(
                    is_sure_through(list(text), queues, first, second),
                    not reference.can_reverse(list(text), queues, first, second, 1),
                )

    def test_reversed_chains(self):
        for log in reference.logs_up_to(6):
            for first, second in pairs_of(log):
                for queues in [1, 2, 3, 4, MOST]:
                    chain = reversed_chain(log, queues, first, second)
                    if is_sure_through(log, queues, first, second):
                        self.assertIsNone(chain)
                    else:
                        reference.check_reversed(self, log, queues, first, second, chain)
                        self.assertIs(is_reversed(log, queues, first, second, chain), True)

    def test_is_reversed_for_all_small_chains(self):
        for chain in small_chains():
            places = reference.traced_by_hand(chain)
            for log in (["a", "b"], ["b", "a"]):
                reversed_here = places is not None and reference.log_of(chain[-1]) == log and places[1] < places[0]
                self.assertIs(is_reversed(log, 2, 0, 1, chain), reversed_here)
                self.assertIs(is_reversed(log, 1, 0, 1, chain), False)


class Reversed(unittest.TestCase):
    """Point 35."""

    one_run = events("aba!!")

    def test_the_number_of_runs(self):
        longer = [self.one_run] + [pass_on("ab")] * 4
        for queues, expected in [(1, False), (4, False), (5, True), (6, True), (MOST, True)]:
            self.assertIs(is_reversed(["a", "b"], queues, 0, 1, longer), expected)
        self.assertIs(is_reversed(["a", "b"], 200, 0, 1, [self.one_run] + [pass_on("ab")] * 199), True)
        self.assertIs(is_reversed(["a", "b"], 199, 0, 1, [self.one_run] + [pass_on("ab")] * 199), False)

    def test_the_log(self):
        for log in (["a", "c"], ["b", "a"], ["a", "b", "a"], ["a", "b", "b"]):
            self.assertIs(is_reversed(log, MOST, 0, 1, [self.one_run]), False)
        self.assertIs(is_reversed(["a", "b"], MOST, 0, 1, [events("abc!!")]), False)

    def test_the_two_items(self):
        chain = [events("abcb!!!")]
        log = ["a", "b", "c"]
        found = [is_reversed(log, 1, first, second, chain) for first, second in [(0, 1), (0, 2), (1, 2)]]
        self.assertEqual(found, [False, False, True])

    def test_a_chain_that_is_not_the_returned_one(self):
        for text in ["aba!!", "abba!!", "aaba!!", "abaa!!", "abab!a!!b", "aba!!bab"]:
            expected = text != "abab!a!!b"
            self.assertIs(is_reversed(["a", "b"], 1, 0, 1, [events(text)]), expected, text)

    def test_an_item_surely_before_the_other_one(self):
        for value in ([events("a!a!")], [events("aa!")], []):
            self.assertIs(is_reversed(["a", "a"], MOST, 0, 1, value), False)

    def test_any_value(self):
        wrong = values.plain_values() + [0, "", (), (self.one_run,), self.one_run, values.nested_in_itself()]
        wrong += [[run] for run in values.wrong_runs()] + [[self.one_run, run] for run in values.wrong_runs()]
        for value in wrong:
            self.assertIs(is_reversed(["a", "b"], MOST, 0, 1, value), False)


class LongLogs(unittest.TestCase):
    def test_against_the_steps(self):
        for log in LONG_LOGS:
            for first, second in [(0, 1), (0, 2), (0, 100), (0, 198), (0, 199), (5, 80), (100, 130), (198, 199)]:
                for queues in [1, 2, 3, 10, 66, 67, 198, 199, 200, MOST]:
                    sure = reference.surely_through(log, queues, first, second)
                    self.assertIs(is_sure_through(log, queues, first, second), sure)
                depth = sure_depth(log, first, second)
                if depth is None:
                    self.assertIn(log[first], log[first + 1:second + 1])
                else:
                    self.assertIs(is_sure_through(log, depth + 1, first, second), False)
                    self.assertTrue(depth == 0 or is_sure_through(log, depth, first, second))

    def test_one_key_behind_another(self):
        log = LONG_LOGS[0]
        self.assertEqual([sure_depth(log, 0, second) for second in (1, 2, 3, 199)], [0, 1, 2, 198])
        self.assertEqual([sure_from(log, queues, 0) for queues in (1, 2, 198, 199, MOST)], [2, 3, 199, None, None])
        self.assertEqual([sure_from(log, queues, 1) for queues in (1, 2, 199, MOST)], [2, 2, 2, 2])
        self.assertIsNone(sure_depth(log, 1, 199))

    def test_the_last_item(self):
        for log in LONG_LOGS:
            for queues in (1, MOST):
                self.assertIsNone(sure_from(log, queues, 199))

    def test_reversed_chains(self):
        for log in LONG_LOGS:
            for first, second in [(0, 1), (0, 50), (0, 198), (0, 199), (100, 130)]:
                depth = sure_depth(log, first, second)
                if depth is None:
                    self.assertIsNone(reversed_chain(log, MOST, first, second))
                    continue
                chain = reversed_chain(log, depth + 1, first, second)
                self.assertLessEqual(len(chain), min(depth + 1, 200))
                self.assertLessEqual(max(len(run) for run in chain), 1000)
                self.assertIs(is_chain(chain), True)
                places = traced(chain)
                self.assertEqual(len(places), 200)
                self.assertLess(places[second], places[first])
                self.assertIs(is_reversed(log, depth + 1, first, second, chain), True)
                self.assertIs(is_reversed(log, MOST, first, second, chain), True)
                if depth > 0:
                    self.assertIsNone(reversed_chain(log, depth, first, second))

    def test_a_long_chain_by_the_book(self):
        log = ["b"] + ["a"] * 11
        chain = reversed_chain(log, MOST, 0, 11)
        self.assertEqual(len(chain), 11)
        reference.check_reversed(self, log, MOST, 0, 11, chain)

    def test_kinds_of_results(self):
        self.assertIs(type(sure_from(LOG, 1, 0)), int)
        self.assertEqual([type(place) for place in traced([events("ab!!")])], [int, int])
        self.assertEqual([type(run) for run in reversed_chain(LOG, 2, 0, 3)], [list, list])


class Wrong(unittest.TestCase):
    def check(self, error, function, *arguments):
        with self.assertRaises(error) as caught:
            function(*arguments)
        self.assertIs(type(caught.exception), error)

    def check_all(self, error, log, queues, first, second):
        for function in OF_TWO_ITEMS:
            self.check(error, function, log, queues, first, second)
        self.check(error, is_reversed, log, queues, first, second, [events("a!")])

    def test_logs(self):
        for log in values.wrong_logs():
            self.check_all(InvalidLog, log, 1, 0, 1)
            self.check(InvalidLog, sure_from, log, 1, 0)
            self.check(InvalidLog, sure_depth, log, 0, 1)

    def test_the_log_is_looked_at_first(self):
        for wrong in (0, -1, None, [], values.Hostile()):
            self.check_all(InvalidLog, ["a", "B"], wrong, 0, 1)
            self.check_all(InvalidLog, ["a", "B"], 1, wrong, 1)
            self.check_all(InvalidLog, ["a", "B"], 1, 0, wrong)
            self.check(InvalidLog, sure_from, ["a", "B"], 1, wrong)
            self.check(InvalidLog, sure_from, ["a", "B"], wrong, 0)
            self.check(InvalidLog, sure_depth, ["a", "B"], wrong, wrong)

    def test_items(self):
        for item in values.wrong_items(4):
            self.check_all(InvalidItem, LOG, 1, item, 3)
            self.check_all(InvalidItem, LOG, 1, 0, item)
            self.check_all(InvalidItem, LOG, 1, item, item)
            self.check(InvalidItem, sure_from, LOG, 1, item)
            self.check(InvalidItem, sure_depth, LOG, item, 3)
            self.check(InvalidItem, sure_depth, LOG, 0, item)

    def test_the_second_item_is_a_later_one(self):
        for first in range(4):
            for second in range(first + 1):
                self.check_all(InvalidItem, LOG, 1, first, second)
                self.check(InvalidItem, sure_depth, LOG, first, second)

    def test_the_empty_log(self):
        self.check_all(InvalidItem, [], 1, 0, 0)
        self.check_all(InvalidItem, [], 1, 0, 1)
        self.check(InvalidItem, sure_from, [], 1, 0)
        self.check(InvalidItem, sure_depth, [], 0, 1)

    def test_queues(self):
        for queues in wrong_queues():
            self.check_all(InvalidNumber, LOG, queues, 0, 3)
            self.check_all(InvalidNumber, ["a", "a"], queues, 0, 1)
            self.check(InvalidNumber, sure_from, LOG, queues, 0)

    def test_the_items_are_looked_at_before_the_queues(self):
        for queues in wrong_queues():
            self.check_all(InvalidItem, LOG, queues, 4, 5)
            self.check_all(InvalidItem, LOG, queues, 1, 1)
            self.check(InvalidItem, sure_from, LOG, queues, 4)

    def test_the_queues_are_looked_at_before_the_value(self):
        for value in ([], None, values.Hostile()):
            self.check(InvalidNumber, is_reversed, LOG, 0, 0, 1, value)
            self.check(InvalidItem, is_reversed, LOG, 1, 1, 1, value)
            self.check(InvalidLog, is_reversed, tuple(LOG), 1, 0, 1, value)


def wrong_queues():
    """Values that are not numbers of queues."""
    return values.plain_values() + [
        0, -1, MOST + 1, MOST * 10, -MOST, "1", "", [], [1], (), (1,), {1: 1}, {1}, values.nested_in_itself(),
    ]


if __name__ == "__main__":
    unittest.main()
