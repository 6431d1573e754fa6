"""Points 13 and 50 to 54: cuts of the source, and contents of the mirrors."""

import itertools
import unittest

from conflate.cuts import (
    contents_after, greatest_cut, least_cut, standing_of, sure_moments, why_impossible,
)
from conflate.errors import (
    Inconsistent, InvalidCut, InvalidLog, InvalidLogs, InvalidMirror, InvalidNumber, InvalidWrite,
)
from conflate.mirrors import ring_in
from conflate.relations import is_before
from tests import sources, values
from tests.sources import always_before, contents_of, existing, greatest_of, marked_by_hand

TWO = [[("a", 2), ("b", 1)], [("a", 1), ("b", 1), ("a", 2)]]
WRONG_WAY = [[("a", 2), ("b", 1)], [("b", 1), ("a", 2)]]
GREAT = 10 ** 30
# One source writes a, b, c, b, c, a; the middle one of these logs shows most.
THREE = [[("a", 1), ("b", 2), ("c", 2)], [("a", 1), ("b", 1), ("c", 1), ("b", 2), ("c", 2), ("a", 2)], [("a", 2)]]


def all_cuts(logs):
    greatest = greatest_of(logs)
    for counts in itertools.product(*[range(most + 1) for most in greatest.values()]):
        yield dict(zip(greatest, counts))


def standing_by_hand(logs, cut):
    """Whether every source has these contents at some moment, or at least one, or none."""
    found = [cut in moments for moments in contents_of(logs)]
    return "sure" if all(found) else "possible" if any(found) else "impossible"


def possible_cuts(logs):
    return [cut for cut in all_cuts(logs) if standing_by_hand(logs, cut) != "impossible"]


class Examples(unittest.TestCase):
    def test_standing_of(self):
        cuts = [{"a": 1, "b": 0}, {"a": 1, "b": 1}, {"a": 0, "b": 1}]
        self.assertEqual([standing_of(TWO, cut) for cut in cuts], ["sure", "sure", "impossible"])

    def test_why_impossible(self):
        found = [why_impossible(TWO, cut) for cut in [{"a": 0, "b": 1}, {"a": 2, "b": 0}, {"a": 1, "b": 0}]]
        self.assertEqual(found, [(("a", 1), ("b", 1)), (("b", 1), ("a", 2)), None])

    def test_least_and_greatest(self):
        found = [least_cut(TWO, ("b", 1)), greatest_cut(TWO, ("b", 1)), greatest_cut(TWO, ("a", 2))]
        self.assertEqual(found, [{"a": 1, "b": 1}, {"a": 1, "b": 0}, {"a": 1, "b": 1}])

    def test_contents_after(self):
        self.assertEqual(contents_after(TWO[1], 2), {"a": 1, "b": 1})

    def test_sure_moments(self):
        self.assertEqual([sure_moments(TWO, mirror) for mirror in [0, 1]], [[0, 2], [0, 1, 2, 3]])


class Ordinary(unittest.TestCase):
    def test_all_three_standings(self):
        logs = [[("a", 2), ("b", 2)]]
        # a 1 enters first, b 1 behind it; of a 2 and b 1 or b 2 either can be first.
        for cut, standing in [
            ((0, 0), "sure"), ((1, 0), "sure"), ((0, 1), "impossible"), ((0, 2), "impossible"), ((1, 1), "possible"),
            ((2, 0), "possible"), ((2, 1), "possible"), ((1, 2), "possible"), ((2, 2), "sure"),
        ]:
            self.assertEqual(standing_of(logs, {"a": cut[0], "b": cut[1]}), standing)

    def test_the_least_pair_is_returned(self):
        logs = [[(key, 1) for key in "abcd"]]
        for present, pair in [("d", "ad"), ("bd", "ab"), ("c", "ac"), ("ad", "bd"), ("abd", "cd"), ("ac", "bc"), ("cd", "ac")]:
            cut = {key: int(key in present) for key in "abcd"}
            self.assertEqual(why_impossible(logs, cut), ((pair[0], 1), (pair[1], 1)))

    def test_least_and_greatest(self):
        self.assertEqual(least_cut(THREE, ("a", 2)), {"a": 2, "b": 2, "c": 2})
        self.assertEqual(least_cut(THREE, ("b", 2)), {"a": 1, "b": 2, "c": 1})
        self.assertEqual(greatest_cut(THREE, ("b", 2)), {"a": 1, "b": 1, "c": 1})
        self.assertEqual(greatest_cut(THREE, ("a", 1)), {"a": 0, "b": 0, "c": 0})

    def test_contents(self):
        log = [("b", 2), ("a", 7), ("b", 9), ("c", 1)]
        found = [contents_after(log, items) for items in range(5)]
        self.assertEqual(found, [{}, {"b": 2}, {"a": 7, "b": 2}, {"a": 7, "b": 9}, {"a": 7, "b": 9, "c": 1}])
        self.assertEqual([list(contents) for contents in found], [[], ["b"], ["a", "b"], ["a", "b"], ["a", "b", "c"]])

    def test_moments(self):
        self.assertEqual([sure_moments(THREE, mirror) for mirror in range(3)], [[0, 1, 3], [0, 1, 2, 3, 4, 5, 6], [0]])
        self.assertEqual(sure_moments([[("a", 1), ("b", 1), ("c", 1)]], 0), [0, 1, 2, 3])
        self.assertEqual(sure_moments([[("a", 2), ("b", 1), ("c", 3)]], 0), [0, 3])


class Edges(unittest.TestCase):
    def test_first_and_last_contents_are_sure(self):
        for logs in sources.consistent_logs():
            for cut in ({key: 0 for key in greatest_of(logs)}, greatest_of(logs)):
                self.assertEqual(standing_of(logs, cut), "sure")
                self.assertIsNone(why_impossible(logs, cut))

    def test_empty_logs(self):
        for logs in ([[]], [[], []]):
            self.assertEqual([standing_of(logs, {}), why_impossible(logs, {})], ["sure", None])
            self.assertEqual(sure_moments(logs, len(logs) - 1), [0])
        more = [[]] + TWO + [[]]
        for cut in all_cuts(TWO):
            self.assertEqual(standing_of(more, cut), standing_of(TWO, cut))
            self.assertEqual(why_impossible(more, cut), why_impossible(TWO, cut))
        self.assertEqual([sure_moments(more, mirror) for mirror in range(4)], [[0], [0, 2], [0, 1, 2, 3], [0]])

    def test_the_order_of_the_keys_has_no_effect(self):
        for cut in all_cuts(THREE):
            turned = dict(reversed(list(cut.items())))
            self.assertEqual(standing_of(THREE, turned), standing_of(THREE, cut))
            self.assertEqual(why_impossible(THREE, turned), why_impossible(THREE, cut))

    def test_keys_of_returned_cuts_ascend(self):
        logs = [[("k2", 2), ("b", 1), ("k10", 3), ("a", 1)]]
        for write in existing(logs):
            for found in (least_cut(logs, write), greatest_cut(logs, write)):
                self.assertEqual(list(found), ["a", "b", "k10", "k2"])
                self.assertNotEqual(standing_of(logs, found), "impossible")

    def test_great_counts_and_writes_that_are_not_marked(self):
        logs = [[("a", GREAT), ("b", GREAT - 1)], [("a", GREAT - 1), ("b", 1), ("a", GREAT)]]
        half = GREAT // 2
        for a, b, standing in [
            (0, 0, "sure"), (GREAT, GREAT - 1, "sure"), (1, 0, "sure"), (0, 1, "impossible"), (half, half, "impossible"),
            (half, 1, "possible"), (half, 0, "possible"), (GREAT - 1, 1, "sure"), (GREAT - 1, 2, "impossible"),
            (GREAT, 1, "sure"), (GREAT, half, "sure"), (GREAT - 1, 0, "possible"), (1, 1, "possible"),
        ]:
            with self.subTest(a=a, b=b):
                self.assertEqual(standing_of(logs, {"b": b, "a": a}), standing)
        self.assertEqual(why_impossible(logs, {"a": half, "b": half}), (("a", GREAT - 1), ("b", 2)))
        self.assertEqual(why_impossible(logs, {"a": 0, "b": 1}), (("a", 1), ("b", 1)))
        self.assertEqual(least_cut(logs, ("b", half)), {"a": GREAT, "b": half})
        self.assertEqual(greatest_cut(logs, ("b", half)), {"a": GREAT, "b": half - 1})
        self.assertEqual(least_cut(logs, ("a", half)), {"a": half, "b": 0})
        self.assertEqual(greatest_cut(logs, ("a", half)), {"a": half - 1, "b": 1})
        self.assertEqual(contents_after(logs[0], 1), {"a": GREAT})

    def test_counts_far_apart_tell_the_same_as_near_ones(self):
        counts = {0: 0, 1: 1, 2: 2, 3: GREAT // 3, 4: GREAT // 3 + 1, 5: GREAT}
        near = [[("a", 1), ("b", 1), ("b", 3)], [("a", 3), ("b", 5), ("a", 5)]]
        wide = [[(key, counts[count]) for key, count in log] for log in near]
        for cut in all_cuts(near):
            far = {key: counts[count] for key, count in cut.items()}
            self.assertEqual(standing_of(wide, far), standing_of(near, cut))
        for key, count in existing(near):
            for function in (least_cut, greatest_cut):
                # The write of the same key before this one is not the next smaller one of these counts.
                cut = function(near, (key, count))
                far = {other: counts[cut[other]] for other in cut if other != key}
                found = function(wide, (key, counts[count]))
                self.assertEqual({other: found[other] for other in far}, far)
                self.assertEqual(found[key], counts[count] - (function is greatest_cut))

    def test_twenty_logs_of_two_hundred_items(self):
        for seed, mirrors, keys, sends in [(1, 20, 10, 60), (3, 4, 8, 20), (5, 1, 200, 40)]:
            source, logs = sources.played_mirrors(seed, mirrors, [f"k{key}" for key in range(keys)], 200, sends)
            greatest = greatest_of(logs)
            for many in range(0, len(source), 40):
                cut = {key: min(dict(source[:many]).get(key, 0), greatest[key]) for key in greatest}
                self.assertNotEqual(standing_of(logs, cut), "impossible")
            for write in [write for write in source if write in marked_by_hand(logs)][::40]:
                least, most = least_cut(logs, write), greatest_cut(logs, write)
                self.assertTrue(least[write[0]] == write[1] == most[write[0]] + 1)
                for cut in (least, most):
                    self.assertIsNone(why_impossible(logs, cut))
                less = [key for key in greatest if key != write[0] and least[key] > 0]
                for key in less[:4]:
                    self.assertIs(is_before(logs, (key, least[key]), write), True)
                    self.assertEqual(standing_of(logs, {**least, key: least[key] - 1}), "impossible")
                more = [key for key in greatest if key != write[0] and most[key] < greatest[key]]
                for key in more[:4]:
                    self.assertIs(is_before(logs, write, (key, most[key] + 1)), True)
                    self.assertEqual(standing_of(logs, {**most, key: most[key] + 1}), "impossible")
            for mirror in range(0, mirrors, 7):
                moments = sure_moments(logs, mirror)
                for items in range(0, len(logs[mirror]) + 1, 5):
                    cut = {**{key: 0 for key in greatest}, **contents_after(logs[mirror], items)}
                    self.assertEqual(standing_of(logs, cut) == "sure", items in moments)


class AllSmallLogs(unittest.TestCase):
    def test_standings(self):
        for logs in sources.consistent_logs():
            for cut in all_cuts(logs):
                if standing_of(logs, cut) != standing_by_hand(logs, cut):
                    self.fail((logs, cut))

    def test_why_impossible(self):
        for logs in sources.consistent_logs():
            marked = marked_by_hand(logs)
            for cut in all_cuts(logs):
                pairs = [
                    (inner, outer) for inner in marked for outer in marked
                    if inner[1] <= cut[inner[0]] and outer[1] > cut[outer[0]] and always_before(logs, outer, inner)
                ]
                least = min(pairs, default=None)
                self.assertEqual(why_impossible(logs, cut), least and (least[1], least[0]))

    def test_least_and_greatest(self):
        for logs in sources.consistent_logs():
            possible = possible_cuts(logs)
            for write in existing(logs):
                holding = [cut for cut in possible if cut[write[0]] >= write[1]]
                least = {key: min(cut[key] for cut in holding) for key in greatest_of(logs)}
                self.assertIn(least, holding)
                self.assertEqual(least_cut(logs, write), least)
                without = [cut for cut in possible if cut[write[0]] < write[1]]
                greatest = {key: max(cut[key] for cut in without) for key in greatest_of(logs)}
                self.assertIn(greatest, without)
                self.assertEqual(greatest_cut(logs, write), greatest)

    def test_moments(self):
        for logs in sources.consistent_logs():
            for mirror, log in enumerate(logs):
                shown = [{**{key: 0 for key in greatest_of(logs)}, **dict(log[:many])} for many in range(len(log) + 1)]
                sure = [many for many, cut in enumerate(shown) if standing_by_hand(logs, cut) == "sure"]
                self.assertEqual(sure_moments(logs, mirror), sure)
                found = [{**shown[0], **contents_after(log, many)} for many in range(len(log) + 1)]
                self.assertEqual(found, shown)

    def test_logs_that_do_not_go_together(self):
        for logs in sources.inconsistent_logs()[::9]:
            ring, write = ring_in(logs), marked_by_hand(logs)[0]
            calls = [(function, cut) for function in (standing_of, why_impossible) for cut in all_cuts(logs)]
            calls += [(least_cut, write), (greatest_cut, write), (sure_moments, 0)]
            for function, argument in calls:
                with self.assertRaises(Inconsistent) as caught:
                    function(logs, argument)
                self.assertIs(type(caught.exception), Inconsistent)
                self.assertEqual(caught.exception.ring, ring)


class Wrong(unittest.TestCase):
    def check(self, error, function, *arguments):
        with self.assertRaises(error) as caught:
            function(*arguments)
        self.assertIs(type(caught.exception), error)

    def test_logs(self):
        for value in values.wrong_mirror_logs():
            for function, argument in [
                (standing_of, {"a": 1}), (why_impossible, None), (least_cut, ("a", 1)), (greatest_cut, None),
                (sure_moments, 0),
            ]:
                self.check(InvalidLogs, function, value, argument)

    def test_cuts(self):
        # Wrong arguments come before logs that do not go together.
        for logs in (TWO, WRONG_WAY):
            for value in values.wrong_cuts():
                for function in (standing_of, why_impossible):
                    self.check(InvalidCut, function, logs, value)
        for value in values.plain_values() + [{"a": 0}, [], ()]:
            if not isinstance(value, dict) or len(value) > 0:
                self.check(InvalidCut, standing_of, [[]], value)

    def test_writes(self):
        for value in values.wrong_writes() + [("a", 3), ("b", 2), ("c", 1), ("a", GREAT), ("", 1)]:
            for logs in (TWO, WRONG_WAY):
                for function in (least_cut, greatest_cut):
                    self.check(InvalidWrite, function, logs, value)

    def test_mirrors(self):
        for value in values.wrong_numbers(0, 1):
            for logs in (TWO, WRONG_WAY):
                self.check(InvalidMirror, sure_moments, logs, value)

    def test_contents(self):
        for value in values.wrong_counted():
            for items in (0, None):
                self.check(InvalidLog, contents_after, value, items)
        for log in ([], TWO[0], [("a", GREAT)]):
            for value in values.wrong_numbers(0, len(log)):
                self.check(InvalidNumber, contents_after, log, value)


if __name__ == "__main__":
    unittest.main()
