"""Points 4, 7, 8 and 22 to 25: what one log says about two of its items."""

import itertools
import random
import unittest

from conflate.errors import InvalidItem, InvalidLog
from conflate.pairs import is_sure, repeat_end, reversed_run, sure_counts, why_sure
from conflate.queues import hidden_in, shown_by, waiting_after, writes_of
from tests import reference, values

LOG = ["b", "a", "a", "c"]
OF_TWO_ITEMS = (is_sure, why_sure, reversed_run)
LONG_LOGS = [
    [f"k{number}" for number in range(200)],
    ["a"] * 200,
    [f"k{number % 8}" for number in range(200)],
    [f"k{number // 2}" for number in range(200)],
    ["first"] + [f"k{number}" for number in range(198)] + ["first"],
    [random.Random(1).choice("abcdefghij") for _ in range(200)],
]


class Examples(unittest.TestCase):
    def test_repeat_end(self):
        self.assertEqual([repeat_end(LOG, item) for item in [0, 1, 2, 3]], [2, 2, None, None])

    def test_sure_counts(self):
        self.assertEqual(sure_counts(LOG), [0, 0, 2, 2])

    def test_is_sure(self):
        self.assertEqual([is_sure(LOG, 0, 3), is_sure(LOG, 2, 3), is_sure(LOG, 3, 0)], [True, False, False])

    def test_why_sure(self):
        self.assertEqual([why_sure(LOG, 0, 3), why_sure(LOG, 2, 3)], [(1, 2), None])

    def test_reversed_run(self):
        self.assertIsNone(reversed_run(LOG, 0, 3))
        self.assertEqual([key for key, _ in shown_by(reversed_run(LOG, 2, 3))], LOG)


class ShortLogs(unittest.TestCase):
    """All logs of at most 5 items, against all runs with them, played event by event."""

    def test_sure_is_what_all_runs_have(self):
        for log in reference.logs_up_to(5):
            orders = reference.played_orders(log)
            for first, second in itertools.permutations(range(len(log)), 2):
                in_all = all(order.index(first) < order.index(second) for order in orders)
                with self.subTest(log=log, first=first, second=second):
                    self.assertIs(is_sure(log, first, second), in_all)

    def test_small_runs_keep_the_sure_order(self):
        for run, _, shown, _ in values.small_runs():
            log = [key for key, _ in shown]
            places = reference.places_of_shown(run)
            for first, second in itertools.permutations(range(len(log)), 2):
                if is_sure(log, first, second) and places[first] > places[second]:
                    self.fail(repr((run, first, second)))

    def test_repeat_ends(self):
        for log in reference.logs_up_to(6):
            for item in range(len(log)):
                with self.subTest(log=log, item=item):
                    self.assertEqual(repeat_end(log, item), reference.end_of_repeat(log, item))

    def test_sure_counts(self):
        for log in reference.logs_up_to(6):
            counts = sure_counts(log)
            self.assertEqual(len(counts), len(log))
            for second in range(len(log)):
                sure = [first for first in range(len(log)) if first != second and is_sure(log, first, second)]
                with self.subTest(log=log, second=second):
                    self.assertEqual(sure, list(range(counts[second])))

    def test_why_sure(self):
        for log in reference.logs_up_to(6):
            for first, second in itertools.permutations(range(len(log)), 2):
                pairs = [
                    (k, i) for i, k in itertools.combinations(range(first, second + 1), 2)
                    if log[i] == log[k] and log[k] not in log[i + 1:k]
                ]
                expected = tuple(reversed(min(pairs))) if pairs else None
                with self.subTest(log=log, first=first, second=second):
                    self.assertEqual(why_sure(log, first, second), expected)

    def test_reversed_runs(self):
        for log in reference.logs_up_to(6):
            for first, second in itertools.permutations(range(len(log)), 2):
                run = reversed_run(log, first, second)
                if is_sure(log, first, second):
                    self.assertIsNone(run)
                    continue
                places = reference.places_of_shown(run)
                if reference.log_of(run) != log or places[second] > places[first]:
                    self.fail(repr((log, first, second, run)))


class Edges(unittest.TestCase):
    def test_the_empty_log(self):
        self.assertEqual(sure_counts([]), [])
        for item in (0, -1, 1):
            with self.assertRaises(InvalidItem):
                repeat_end([], item)
            for function in OF_TWO_ITEMS:
                with self.assertRaises(InvalidItem):
                    function([], item, 0)

    def test_one_item(self):
        self.assertIsNone(repeat_end(["a"], 0))
        self.assertEqual(sure_counts(["a"]), [0])
        for function in OF_TWO_ITEMS:
            with self.assertRaises(InvalidItem):
                function(["a"], 0, 0)

    def test_neighbours_with_one_key_are_a_repeat(self):
        for log, first in [(["a", "a"], 0), (["b", "a", "a"], 1), (["a", "b", "b", "a"], 1)]:
            self.assertIs(is_sure(log, first, first + 1), True)
            self.assertIs(is_sure(log, first + 1, first), False)
            self.assertEqual(why_sure(log, first, first + 1), (first, first + 1))
            self.assertIsNone(why_sure(log, first + 1, first))

    def test_as_many_items_apart_as_there_are_keys(self):
        for log in reference.logs_up_to(6) + LONG_LOGS:
            many = len(set(log))
            for first in range(len(log) - many):
                self.assertIs(is_sure(log, first, first + many), True)

    def test_a_log_of_different_keys_says_nothing(self):
        log = LONG_LOGS[0]
        self.assertEqual(sure_counts(log), [0] * 200)
        for first, second in [(0, 1), (0, 199), (199, 0), (198, 199), (7, 130)]:
            self.assertIs(is_sure(log, first, second), False)
            self.assertIsNone(why_sure(log, first, second))
            places = reference.places_of_shown(reversed_run(log, first, second))
            self.assertLess(places[second], places[first])
        self.assertEqual([repeat_end(log, item) for item in (0, 100, 199)], [None] * 3)

    def test_one_key_says_all(self):
        log = LONG_LOGS[1]
        self.assertEqual(sure_counts(log), list(range(200)))
        self.assertEqual([repeat_end(log, item) for item in (0, 197, 198, 199)], [1, 198, 199, None])
        self.assertEqual([why_sure(log, 0, 199), why_sure(log, 198, 199)], [(0, 1), (198, 199)])
        self.assertEqual([reversed_run(log, 0, 199), reversed_run(log, 198, 199)], [None, None])

    def test_the_first_and_the_last_item(self):
        log = LONG_LOGS[4]
        self.assertEqual([repeat_end(log, 0), repeat_end(log, 1)], [199, None])
        self.assertEqual(sure_counts(log), [0] * 199 + [1])
        self.assertEqual([is_sure(log, 0, 198), is_sure(log, 0, 199), is_sure(log, 1, 199)], [False, True, False])
        self.assertEqual(why_sure(log, 0, 199), (0, 199))

    def test_a_reversed_run_with_the_items_the_other_way_round(self):
        run = reversed_run(["a", "a", "b"], 2, 0)
        self.assertEqual(reference.order_of(run)[0], 0)
        self.assertEqual(reference.log_of(run), ["a", "a", "b"])

    def test_long_logs(self):
        for log in LONG_LOGS:
            ends = [reference.end_of_repeat(log, item) for item in range(0, 200, 9)]
            self.assertEqual([repeat_end(log, item) for item in range(0, 200, 9)], ends)
            counts = sure_counts(log)
            self.assertEqual(counts, sorted(counts))
            for first, second in itertools.product([0, 1, 50, 99, 198, 199], [0, 2, 57, 101, 150, 199]):
                if first == second:
                    continue
                sure = reference.surely_before(log, first, second)
                self.assertIs(is_sure(log, first, second), sure)
                self.assertEqual(first < counts[second], sure)
                self.assertEqual(why_sure(log, first, second) is not None, sure)
                self.check_reversed(log, first, second, sure)

    def check_reversed(self, log, first, second, sure):
        run = reversed_run(log, first, second)
        self.assertEqual(run is None, sure)
        if run is not None:
            self.assertEqual([key for key, _ in shown_by(run)], log)
            self.assertLessEqual(len(run), 1000)
            self.assertEqual(waiting_after(run), [])
            self.assertEqual(len(hidden_in(run)), len(writes_of(run)) - len(log))
            places = reference.places_of_shown(run)
            self.assertLess(places[second], places[first])

    def test_kinds_of_results(self):
        self.assertIs(type(repeat_end(LOG, 0)), int)
        self.assertEqual([type(count) for count in sure_counts(LOG)], [int] * 4)
        self.assertIs(type(why_sure(LOG, 0, 3)), tuple)
        self.assertIs(type(reversed_run(LOG, 2, 3)), list)


class Wrong(unittest.TestCase):
    def check(self, error, function, *arguments):
        with self.assertRaises(error) as caught:
            function(*arguments)
        self.assertIs(type(caught.exception), error)

    def test_logs(self):
        for log in values.wrong_logs():
            self.check(InvalidLog, sure_counts, log)
            self.check(InvalidLog, repeat_end, log, 0)
            for function in OF_TWO_ITEMS:
                self.check(InvalidLog, function, log, 0, 1)

    def test_the_log_is_looked_at_first(self):
        for wrong in (-1, 4, None, [], values.Hostile()):
            self.check(InvalidLog, repeat_end, ("a", "b"), wrong)
            for function in OF_TWO_ITEMS:
                self.check(InvalidLog, function, ["a", "B"], wrong, 0)
                self.check(InvalidLog, function, ["a", "B"], 0, wrong)
                self.check(InvalidLog, function, ["a", "B"], 0, 0)

    def test_items(self):
        for item in values.wrong_items(4):
            self.check(InvalidItem, repeat_end, LOG, item)
            for function in OF_TWO_ITEMS:
                self.check(InvalidItem, function, LOG, item, 1)
                self.check(InvalidItem, function, LOG, 1, item)
                self.check(InvalidItem, function, LOG, item, item)

    def test_the_same_item_twice(self):
        for function in OF_TWO_ITEMS:
            for item in range(4):
                self.check(InvalidItem, function, LOG, item, item)


if __name__ == "__main__":
    unittest.main()
