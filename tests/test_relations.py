"""Points 12 and 46 to 49: which writes were before which."""

import itertools
import unittest

from conflate.errors import Inconsistent, InvalidLogs, InvalidWrite
from conflate.mirrors import is_direct, is_history, is_ring, marked_writes, ring_in
from conflate.relations import history_with, is_before, path_between, unordered_with
from tests import sources, values
from tests.sources import always_before, direct_by_hand, existing, histories_of, marked_by_hand

TWO = [[("a", 2), ("b", 1)], [("a", 1), ("b", 1), ("a", 2)]]
WRONG_WAY = [[("a", 2), ("b", 1)], [("b", 1), ("a", 2)]]
GREAT = 10 ** 30
OF_TWO = (is_before, path_between, history_with)


class Examples(unittest.TestCase):
    def test_is_before(self):
        pairs = [(("a", 1), ("b", 1)), (("b", 1), ("a", 2)), (("a", 2), ("b", 1))]
        self.assertEqual([is_before(TWO, *pair) for pair in pairs], [True, True, False])

    def test_path_between(self):
        found = [path_between(TWO, ("b", 1), ("a", 2)), path_between(TWO, ("a", 2), ("b", 1))]
        self.assertEqual(found, [[("b", 1), ("a", 2)], None])

    def test_history_with(self):
        found = [history_with(TWO, ("a", 1), ("b", 1)), history_with(TWO, ("b", 1), ("a", 1))]
        self.assertEqual(found, [[("a", 1), ("b", 1), ("a", 2)], None])

    def test_unordered_with(self):
        found = [unordered_with([[("a", 2), ("b", 1)]], write) for write in [("a", 1), ("a", 2), ("b", 1)]]
        self.assertEqual(found, [[], [("b", 1)], [("a", 2)]])


class Edges(unittest.TestCase):
    def test_no_write_is_before_itself(self):
        for logs in (TWO, [TWO[0]], [[("a", GREAT)]]):
            for write in existing(TWO)[:2]:
                self.assertIs(is_before(logs, write, write), False)
                self.assertIsNone(path_between(logs, write, write))

    def test_different_keys_in_one_log(self):
        logs = [[(key, 1) for key in "abcde"]]
        for write, other in itertools.product(logs[0], repeat=2):
            self.assertIs(is_before(logs, write, other), write < other)
            self.assertEqual(path_between(logs, write, other) is not None, write < other)
        self.assertEqual([unordered_with(logs, write) for write in logs[0]], [[]] * 5)

    def test_a_path_over_several_writes(self):
        # Each of b, c and d enters behind the one before it; none is directly before another but these.
        logs = [[("a", 1), ("b", 2)], [("a", 1), ("b", 1), ("c", 2), ("b", 2)]]
        path = path_between(logs, ("a", 1), ("c", 2))
        self.assertEqual([path[0], path[-1]], [("a", 1), ("c", 2)])
        self.assertGreater(len(path), 2)
        for write, other in zip(path, path[1:]):
            self.assertIs(direct_by_hand(logs, write, other), True)

    def test_writes_that_are_not_marked(self):
        logs = [[("a", 9), ("b", 9)], [("a", 4), ("b", 4)]]
        self.assertEqual(path_between(logs, ("a", 3), ("a", 7)), [("a", 3), ("a", 7)])
        self.assertIsNone(path_between(logs, ("a", 7), ("a", 3)))
        self.assertIsNone(path_between(logs, ("a", 7), ("a", 7)))
        self.assertEqual(path_between(logs, ("a", 1), ("b", 3)), [("a", 1), ("b", 1), ("b", 3)])
        self.assertEqual(path_between(logs, ("a", 3), ("b", 7)), [("a", 3), ("a", 4), ("b", 5), ("b", 7)])
        self.assertEqual(path_between(logs, ("b", 1), ("a", 7)), [("b", 1), ("a", 5), ("a", 7)])
        self.assertIsNone(path_between(logs, ("a", 5), ("b", 7)))
        self.assertEqual(unordered_with(logs, ("a", 7)), [("b", 4), ("b", 5), ("b", 9)])
        self.assertEqual(unordered_with(logs, ("b", 2)), [("a", 4), ("a", 5), ("a", 9)])
        self.assertEqual(unordered_with(logs, ("a", 1)), [])

    def test_histories_need_marked_writes(self):
        logs = [[("a", 9), ("b", 9)]]
        for write in [("a", 2), ("a", 8), ("b", 5)]:
            for first, second in [(write, ("a", 1)), (("a", 1), write), (write, write), (write, ("b", 5))]:
                with self.assertRaises(InvalidWrite):
                    history_with(logs, first, second)
            self.assertIs(is_before(logs, ("a", 1), write), True)
        with self.assertRaises(InvalidWrite):
            history_with(logs, ("a", 1), ("a", 1))

    def test_great_counts(self):
        logs = [[("a", GREAT), ("b", GREAT - 1)], [("a", GREAT - 1), ("b", 1), ("a", GREAT)]]
        for write, other, before in [
            (("a", 1), ("a", GREAT), True), (("a", 2), ("a", 3), True), (("a", 3), ("a", 2), False),
            (("a", 5), ("b", 2), True), (("b", 1), ("a", GREAT), True), (("b", 2), ("a", GREAT), False),
            # In the second log a enters last with its greatest count, and b 2 comes behind.
            (("a", GREAT), ("b", GREAT - 1), True), (("a", 1), ("b", 1), True), (("a", 2), ("b", 1), False),
            (("a", GREAT - 1), ("b", GREAT // 2), True), (("b", GREAT - 2), ("a", 7), False),
        ]:
            with self.subTest(write=write, other=other):
                self.assertIs(is_before(logs, write, other), before)
        self.check_path(logs, ("a", 5), ("b", 5))
        self.assertEqual(unordered_with(logs, ("a", GREAT)), [])
        self.assertEqual(unordered_with(logs, ("a", 5)), [("b", 1)])
        self.assertEqual(unordered_with(logs, ("b", 1)), [("a", GREAT - 1)])
        for first, second in itertools.permutations(marked_writes(logs), 2):
            history = history_with(logs, first, second)
            self.assertEqual(history is None, is_before(logs, second, first))
            if history is not None:
                self.assertIs(is_history(logs, history), True)
                self.assertLess(history.index(first), history.index(second))

    def test_counts_far_apart_tell_the_same_as_near_ones(self):
        def far(write):
            return write[0], {1: 1, 2: 2, 3: GREAT // 3, 4: GREAT // 3 + 1, 5: GREAT}[write[1]]

        near = [[("a", 1), ("b", 1), ("b", 3)], [("a", 3), ("b", 5), ("a", 5)]]
        wide = [[far(write) for write in log] for log in near]
        # 2 and 4 follow 1 and 3 in both.
        self.assertEqual(marked_writes(wide), [far(write) for write in marked_writes(near)])
        self.assertEqual(len(unordered_with(near, ("a", 3))), 3)
        for write, other in itertools.product(existing(near), repeat=2):
            self.assertIs(is_before(wide, far(write), far(other)), is_before(near, write, other))
            self.assertEqual(
                unordered_with(wide, far(write)), [far(marked) for marked in unordered_with(near, write)]
            )

    def test_twenty_logs_of_two_hundred_items(self):
        for seed, mirrors, keys, sends in [(1, 20, 10, 60), (3, 4, 8, 20), (5, 1, 200, 40)]:
            source, logs = sources.played_mirrors(seed, mirrors, [f"k{key}" for key in range(keys)], 200, sends)
            marked = set(marked_by_hand(logs))
            told = [write for write in source if write in marked]
            for place in range(0, len(told), 60):
                write, checked = told[place], told[place % 5::5]
                behind = [other for other in checked if is_before(logs, write, other)]
                before = [other for other in checked if is_before(logs, other, write)]
                self.assertTrue(set(behind) <= set(told[place + 1:]))
                self.assertTrue(set(before) <= set(told[:place]))
                for other in behind[::7]:
                    self.check_path(logs, write, other)
                free = [other for other in unordered_with(logs, write) if other in checked]
                self.assertEqual(free, sorted(set(checked) - set(behind) - set(before) - {write}))
                for other in free[:3]:
                    for first, second in [(write, other), (other, write)]:
                        history = history_with(logs, first, second)
                        self.assertIs(is_history(logs, history), True)
                        self.assertLess(history.index(first), history.index(second))

    def check_path(self, logs, write, other):
        path = path_between(logs, write, other)
        self.assertEqual([path[0], path[-1], len(set(path))], [write, other, len(path)])
        for first, second in zip(path, path[1:]):
            self.assertIs(is_direct(logs, first, second), True)


class AllSmallLogs(unittest.TestCase):
    def test_before_in_every_source(self):
        for logs in sources.consistent_logs():
            for write, other in itertools.product(existing(logs), repeat=2):
                if is_before(logs, write, other) is not (write != other and always_before(logs, write, other)):
                    self.fail((logs, write, other))

    def test_paths(self):
        for logs in sources.consistent_logs():
            for write, other in itertools.product(existing(logs), repeat=2):
                path = path_between(logs, write, other)
                self.assertEqual(path is not None, write != other and always_before(logs, write, other))
                if path is not None:
                    self.assertIs(type(path), list)
                    self.assertEqual([path[0], path[-1], len(set(path))], [write, other, len(path)])
                    if not all(direct_by_hand(logs, *pair) for pair in zip(path, path[1:])):
                        self.fail((logs, path))

    def test_histories(self):
        for logs in sources.consistent_logs():
            histories = histories_of(logs)
            for first, second in itertools.permutations(marked_by_hand(logs), 2):
                history = history_with(logs, first, second)
                if always_before(logs, second, first):
                    self.assertIsNone(history)
                elif history not in histories or history.index(first) > history.index(second):
                    self.fail((logs, first, second))

    def test_unordered(self):
        for logs in sources.consistent_logs():
            marked, histories = marked_by_hand(logs), histories_of(logs)
            for write in existing(logs):
                found = unordered_with(logs, write)
                self.assertEqual(found, [
                    other for other in marked if other != write
                    and not always_before(logs, write, other) and not always_before(logs, other, write)
                ])
                if write in marked:
                    both = [other for other in marked if other != write and len(
                        {history.index(write) < history.index(other) for history in histories}
                    ) == 2]
                    self.assertEqual(found, both)

    def test_logs_that_do_not_go_together(self):
        for logs in sources.inconsistent_logs()[::7]:
            for write, other in itertools.permutations(marked_by_hand(logs), 2):
                for function in OF_TWO:
                    self.check_inconsistent(logs, function, write, other)
                self.check_inconsistent(logs, unordered_with, write)

    def check_inconsistent(self, logs, function, *arguments):
        with self.assertRaises(Inconsistent) as caught:
            function(logs, *arguments)
        self.assertIs(type(caught.exception), Inconsistent)
        self.assertIs(is_ring(logs, caught.exception.ring), True)


class Wrong(unittest.TestCase):
    def check(self, error, function, *arguments):
        with self.assertRaises(error) as caught:
            function(*arguments)
        self.assertIs(type(caught.exception), error)

    def test_logs(self):
        for value in values.wrong_mirror_logs():
            for function in OF_TWO:
                self.check(InvalidLogs, function, value, ("a", 1), ("a", 2))
            self.check(InvalidLogs, unordered_with, value, ("a", 1))

    def test_writes(self):
        for value in values.wrong_writes() + [("a", 3), ("b", 2), ("c", 1), ("a", GREAT), ("", 1)]:
            # Wrong arguments come before logs that do not go together.
            for logs in (TWO, WRONG_WAY):
                for function in OF_TWO:
                    self.check(InvalidWrite, function, logs, value, ("a", 1))
                    self.check(InvalidWrite, function, logs, ("a", 1), value)
                    self.check(InvalidWrite, function, logs, value, value)
                self.check(InvalidWrite, unordered_with, logs, value)

    def test_the_first_error_is_raised(self):
        for function in OF_TWO:
            self.check(InvalidLogs, function, [], None, values.Hostile())
            self.check(InvalidLogs, function, [[("a", 0)]], None, None)
        self.check(InvalidLogs, unordered_with, (), None)
        self.check(InvalidWrite, history_with, WRONG_WAY, ("a", 1), ("a", 1))
        logs = [[("a", 9), ("b", 1)], [("b", 1), ("a", 9)]]
        self.check(InvalidWrite, history_with, logs, ("a", 5), ("b", 1))
        self.check(InvalidWrite, history_with, logs, ("b", 1), ("a", 5))
        self.check(Inconsistent, is_before, logs, ("a", 5), ("a", 5))
        self.check(Inconsistent, path_between, logs, ("a", 5), ("b", 1))
        self.check(Inconsistent, unordered_with, logs, ("a", 5))
        self.check(Inconsistent, history_with, logs, ("a", 1), ("b", 1))

    def test_empty_logs_have_no_writes(self):
        for logs in ([[]], [[], []]):
            for function in OF_TWO:
                self.check(InvalidWrite, function, logs, ("a", 1), ("b", 1))
            self.check(InvalidWrite, unordered_with, logs, ("a", 1))


if __name__ == "__main__":
    unittest.main()
