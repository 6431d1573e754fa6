"""Points 10 to 12 and 41 to 45: logs of several mirrors of one source."""

import itertools
import unittest

from conflate.errors import Inconsistent, InvalidLogs, InvalidWrite
from conflate.mirrors import (
    history_of, is_consistent, is_direct, is_history, is_ring, marked_writes, ring_in,
)
from tests import sources, values
from tests.sources import direct_by_hand, existing, follower, marked_by_hand

TWO = [[("a", 2), ("b", 1)], [("a", 1), ("b", 1), ("a", 2)]]
WRONG_WAY = [[("a", 2), ("b", 1)], [("b", 1), ("a", 2)]]
GREAT = 10 ** 30


def ring_by_hand(logs, ring):
    """Whether a list is a ring, by the words of point 11."""
    return bool(ring) and all(direct_by_hand(logs, write, other) for write, other in zip(ring, ring[1:] + ring[:1]))


class Examples(unittest.TestCase):
    def test_marked_and_direct(self):
        found = [marked_writes(TWO), is_direct(TWO, ("b", 1), ("a", 2)), is_direct(TWO, ("b", 1), ("a", 1))]
        self.assertEqual(found, [[("a", 1), ("a", 2), ("b", 1)], True, False])

    def test_consistent(self):
        seconds = [[("a", 1), ("b", 1)], [("b", 1), ("a", 2)]]
        self.assertEqual([is_consistent([TWO[0], second]) for second in seconds], [True, False])

    def test_rings(self):
        rings = [ring_in(WRONG_WAY), [("a", 1), ("b", 1)], [("a", 1), ("a", 2)]]
        self.assertEqual([is_ring(WRONG_WAY, ring) for ring in rings], [True, True, False])

    def test_history_of(self):
        self.assertEqual(history_of(TWO), [("a", 1), ("b", 1), ("a", 2)])

    def test_is_history(self):
        logs = [[("a", 1)], [("a", 1), ("b", 1)]]
        found = [is_history(logs, [(key, 1) for key in keys]) for keys in ["ab", "ba", "a"]]
        found.append(is_history([[("a", 1)], [("b", 1)]], [("a", 1), ("b", 1)]))
        self.assertEqual(found, [True, False, False, False])


class Ordinary(unittest.TestCase):
    def test_marked_writes(self):
        for logs, marked in [
            # The entry, the shown write, and no following one: a is never shown with a greater count.
            ([[("a", 5)]], [("a", 1), ("a", 5)]),
            ([[("a", 5)], [("a", 2)]], [("a", 1), ("a", 2), ("a", 3), ("a", 5)]),
            ([[("a", 3), ("a", 9)], [("b", 2)]], [("a", 1), ("a", 3), ("a", 4), ("a", 9), ("b", 1), ("b", 2)]),
            ([[("b", 1)], [("k10", 1), ("k2", 1)]], [("b", 1), ("k10", 1), ("k2", 1)]),
            ([[("a", 10), ("a", 11)], [("a", 9)]], [("a", 1), ("a", 9), ("a", 10), ("a", 11)]),
        ]:
            self.assertEqual(marked_writes(logs), marked)

    def test_each_condition(self):
        logs = [[("a", 3), ("b", 2), ("a", 6)], [("c", 4)]]
        for write, other, direct in [
            # The same key.
            (("a", 1), ("a", 2), True), (("a", 2), ("a", 5), True), (("a", 5), ("a", 2), False), (("a", 2),) * 2 + (False,),
            # Entries: a 1, b 1, a 4.
            (("a", 1), ("b", 1), True), (("b", 1), ("a", 4), True), (("b", 1), ("a", 1), False), (("a", 1), ("b", 2), False),
            # Shown, and following a shown one.
            (("b", 2), ("a", 4), False), (("a", 3), ("a", 4), True), (("a", 6), ("b", 2), False),
            # The last entry a 4 is before all that comes behind the log: here c 1.
            (("a", 4), ("c", 1), True), (("a", 4), ("c", 2), False), (("a", 5), ("c", 1), False), (("b", 1), ("c", 1), False),
            (("c", 1), ("a", 1), True), (("c", 1), ("b", 1), True), (("c", 1), ("b", 2), False), (("c", 4), ("a", 1), False),
        ]:
            with self.subTest(write=write, other=other):
                self.assertIs(is_direct(logs, write, other), direct)

    def test_a_shown_write_is_before_those_that_follow_later_ones(self):
        logs = [[("a", 3), ("b", 2)], [("b", 5), ("a", 4)]]
        # b 3 follows b 2, which comes behind a 3 in the first log; a 4 follows a 3 itself.
        self.assertIs(is_direct(logs, ("a", 3), ("b", 3)), True)
        self.assertIs(is_direct(logs, ("a", 2), ("b", 3)), False)
        self.assertIs(is_direct(logs, ("b", 2), ("a", 4)), False)
        self.assertIs(is_direct(logs, ("b", 2), ("b", 3)), True)

    def test_one_log_alone_is_consistent(self):
        for log in sources.counted_logs({"a": 3, "b": 2}) + sources.counted_logs({"a": 1, "b": 2, "c": 1}):
            self.assertIs(is_consistent([log]), True)
            self.assertIsNone(ring_in([log]))

    def test_consistent_with_itself(self):
        for logs in ([TWO[0]] * 2, [TWO[1]] * 20, TWO + TWO, [[]] * 3):
            self.assertIs(is_consistent(logs), True)

    def test_a_ring_of_more_than_two(self):
        logs = [[("a", 1), ("b", 2), ("c", 1)], [("c", 1), ("a", 1)]]
        self.assertIs(is_consistent(logs), False)
        self.assertIs(ring_by_hand(logs, ring_in(logs)), True)
        self.assertIs(is_ring(logs, [("a", 1), ("b", 1), ("c", 1)]), True)
        self.assertIs(is_ring(logs, [("c", 1), ("a", 1), ("b", 1)]), True)
        self.assertIs(is_ring(logs, [("a", 1), ("b", 1), ("c", 1)] * 2), True)
        self.assertIs(is_ring(logs, [("b", 1), ("a", 1), ("c", 1)]), False)

    def test_what_no_ring_is(self):
        for value in [[], [("a", 1)], [("a", 1), ("a", 1)], [("b", 1), ("a", 2)], (("a", 1), ("b", 1)), [("a", 1), ("c", 1)]]:
            self.assertIs(is_ring(WRONG_WAY, value), False)
        for value in [[("a", 1)], [("a", 1), ("b", 1)], [("a", 1), ("a", 2)], marked_by_hand(TWO)]:
            self.assertIs(is_ring(TWO, value), False)


class Edges(unittest.TestCase):
    def test_the_empty_log(self):
        for logs in ([[]], [[], []], [[]] * 20):
            self.assertEqual([marked_writes(logs), history_of(logs), ring_in(logs)], [[], [], None])
            self.assertIs(is_consistent(logs), True)
            self.assertIs(is_history(logs, []), True)
            self.assertIs(is_ring(logs, []), False)
            self.assertIs(is_history(logs, [("a", 1)]), False)
            for write in [("a", 1), ("", 1)]:
                with self.assertRaises(InvalidWrite):
                    is_direct(logs, write, write)

    def test_an_empty_log_says_nothing(self):
        for logs in (TWO, WRONG_WAY, [TWO[0]], sources.small_logs()[60]):
            for more in (logs + [[]], [[]] + logs, [[], logs[0], []] + logs[1:]):
                self.assertEqual(marked_writes(more), marked_writes(logs))
                self.assertIs(is_consistent(more), is_consistent(logs))
                for write, other in itertools.product(existing(logs), repeat=2):
                    self.assertIs(is_direct(more, write, other), is_direct(logs, write, other))

    def test_equal_logs_say_the_same(self):
        for logs in (TWO, WRONG_WAY, [TWO[0]]):
            for more in (logs + logs, logs + logs[:1], logs[::-1] + logs):
                self.assertEqual(marked_writes(more), marked_writes(logs))
                self.assertIs(is_consistent(more), is_consistent(logs))
                for write, other in itertools.product(existing(logs), repeat=2):
                    self.assertIs(is_direct(more, write, other), is_direct(logs, write, other))

    def test_writes_that_exist_but_are_not_marked(self):
        logs = [[("a", 9), ("b", 4)]]
        self.assertEqual(marked_writes(logs), [("a", 1), ("a", 9), ("b", 1), ("b", 4)])
        for write, other, direct in [
            (("a", 2), ("a", 8), True), (("a", 8), ("a", 2), False), (("a", 5), ("a", 5), False), (("a", 8), ("a", 9), True),
            (("a", 2), ("b", 2), False), (("b", 2), ("a", 2), False), (("a", 1), ("b", 2), False), (("a", 1), ("b", 1), True),
        ]:
            self.assertIs(is_direct(logs, write, other), direct)

    def test_great_counts(self):
        logs = [[("a", GREAT), ("b", GREAT - 1)], [("a", GREAT - 1), ("b", 1), ("a", GREAT)]]
        marked = [("a", 1), ("a", GREAT - 1), ("a", GREAT), ("b", 1), ("b", 2), ("b", GREAT - 1)]
        self.assertEqual(marked_writes(logs), marked)
        self.assertIs(is_direct(logs, ("a", 7), ("a", GREAT // 2)), True)
        self.assertIs(is_direct(logs, ("b", 1), ("a", GREAT)), True)
        self.assertIs(is_direct(logs, ("a", GREAT - 1), ("b", 2)), True)
        self.assertIs(is_direct(logs, ("a", GREAT - 2), ("b", 2)), False)
        self.assertIs(is_consistent(logs), True)
        self.assertIs(is_history(logs, history_of(logs)), True)
        with self.assertRaises(InvalidWrite):
            is_direct(logs, ("a", GREAT + 1), ("a", 1))
        # In the second log b enters first, in the first log a does.
        logs = [[("a", GREAT), ("b", GREAT)], [("b", GREAT), ("a", GREAT)]]
        self.assertIs(is_ring(logs, ring_in(logs)), True)
        self.assertIs(ring_by_hand([[(key, 2) for key, _ in log] for log in logs], [("a", 1), ("b", 1)]), True)

    def test_twenty_logs_of_two_hundred_items(self):
        for seed, mirrors, keys, sends in [(1, 20, 10, 60), (2, 20, 40, 50), (3, 4, 8, 20), (4, 20, 2, 30), (5, 1, 200, 40)]:
            source, logs = sources.played_mirrors(seed, mirrors, [f"k{key}" for key in range(keys)], 200, sends)
            marked = marked_by_hand(logs)
            self.assertEqual(sum(len(log) for log in logs), 200)
            self.assertEqual(marked_writes(logs), marked)
            self.assertIs(is_consistent(logs), True)
            told = [write for write in source if write in set(marked)]
            self.assertIs(is_history(logs, told), True)
            self.assertIs(is_history(logs, told[::-1]), False)
            self.assertIs(is_history(logs, history_of(logs)), True)
            swapped = [told[1], told[0]] + told[2:]
            self.assertIs(is_history(logs, swapped), not is_direct(logs, told[0], told[1]))

    def test_twenty_logs_that_do_not_go_together(self):
        _, logs = sources.played_mirrors(6, 20, [f"k{key}" for key in range(10)], 200, 50)
        wrong = logs[:10] + [logs[10][::-1]] + logs[11:]
        self.assertEqual(len(set(key for key, _ in logs[10])), len(logs[10]))
        self.assertIs(is_consistent(wrong), False)
        self.assertIs(ring_by_hand(wrong, ring_in(wrong)), True)
        self.assertIs(is_ring(wrong, ring_in(wrong)), True)
        different = [[(f"m{mirror}_{item}", GREAT) for item in range(10)] for mirror in range(20)]
        self.assertIs(ring_by_hand([[(key, 2) for key, _ in log] for log in different], [
            (key, min(count, 2)) for key, count in ring_in(different)
        ]), True)


class AllSmallLogs(unittest.TestCase):
    def test_there_are_enough_of_both(self):
        self.assertGreater(len(sources.consistent_logs()), 300)
        self.assertGreater(len(sources.inconsistent_logs()), 300)

    def test_marked_writes(self):
        for logs in sources.small_logs():
            self.assertEqual(marked_writes(logs), marked_by_hand(logs))

    def test_direct(self):
        for logs in sources.small_logs():
            for write, other in itertools.product(existing(logs), repeat=2):
                if is_direct(logs, write, other) is not direct_by_hand(logs, write, other):
                    self.fail((logs, write, other))

    def test_consistent_if_some_source_shows_them(self):
        for logs in sources.small_logs():
            if is_consistent(logs) is not bool(sources.sources_of(logs)):
                self.fail(logs)

    def test_rings(self):
        for logs in sources.inconsistent_logs():
            ring = ring_in(logs)
            self.assertIs(type(ring), list)
            if not ring_by_hand(logs, ring) or not is_ring(logs, ring):
                self.fail((logs, ring))
            for value in itertools.permutations(existing(logs)[:4], 3):
                self.assertIs(is_ring(logs, list(value)), ring_by_hand(logs, list(value)))
        for logs in sources.consistent_logs():
            self.assertIsNone(ring_in(logs))

    def test_a_history_is_what_a_source_writes(self):
        for logs in sources.consistent_logs():
            if history_of(logs) not in sources.histories_of(logs):
                self.fail(logs)

    def test_histories(self):
        for logs in sources.small_logs():
            marked = marked_by_hand(logs)
            if len(marked) <= 5:
                found = [list(order) for order in itertools.permutations(marked) if is_history(logs, list(order))]
                self.assertEqual(found, sources.histories_of(logs))

    def test_no_history_without_a_source(self):
        for logs in sources.inconsistent_logs():
            with self.assertRaises(Inconsistent) as caught:
                history_of(logs)
            self.assertIs(type(caught.exception), Inconsistent)
            self.assertEqual(caught.exception.ring, ring_in(logs))


class Wrong(unittest.TestCase):
    def check(self, error, function, *arguments):
        with self.assertRaises(error) as caught:
            function(*arguments)
        self.assertIs(type(caught.exception), error)

    def test_logs(self):
        for value in values.wrong_mirror_logs():
            for function in (marked_writes, is_consistent, ring_in, history_of):
                self.check(InvalidLogs, function, value)
            for more in (("a", 1), values.Hostile()):
                self.check(InvalidLogs, is_direct, value, more, more)
                self.check(InvalidLogs, is_ring, value, [more])
                self.check(InvalidLogs, is_history, value, [more])

    def test_writes(self):
        for value in values.wrong_writes() + [("a", 3), ("b", 2), ("c", 1), ("a", GREAT), ("", 1)]:
            for logs in (TWO, WRONG_WAY):
                self.check(InvalidWrite, is_direct, logs, value, ("a", 1))
                self.check(InvalidWrite, is_direct, logs, ("a", 1), value)
                self.check(InvalidWrite, is_direct, logs, value, value)

    def test_values_that_are_no_rings_and_no_histories(self):
        wrong = values.wrong_lists(values.wrong_writes(), ("a", 1), ("b", 1))
        wrong += [[("a", 1), ("b", 1), ("a", 2), part] for part in values.wrong_writes()]
        wrong += [[("a", 1), part, ("a", 2)] for part in values.wrong_writes() + [("a", 3), ("c", 1), ("b", 2)]]
        for value in wrong:
            for logs in (TWO, WRONG_WAY):
                self.assertIs(is_ring(logs, value), False)
                self.assertIs(is_history(logs, value), False)

    def test_lists_that_are_no_histories(self):
        right = history_of(TWO)
        self.assertIs(is_history(TWO, right), True)
        for value in [right + right[:1], right[:2], right + right, [right[0], right[0], right[1]], tuple(right), []]:
            self.assertIs(is_history(TWO, value), False)
        logs = [[("a", 9)]]
        self.assertIs(is_history(logs, [("a", 1), ("a", 9)]), True)
        self.assertIs(is_history(logs, [("a", 1), ("a", 5), ("a", 9)]), False)
        self.assertIs(is_history(logs, [("a", 1), ("a", 5)]), False)


if __name__ == "__main__":
    unittest.main()
