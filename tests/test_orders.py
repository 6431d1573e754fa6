"""Points 8 and 26 to 30: the orders of a log, numbered and walked, and the runs that show them."""

import gc
import inspect
import itertools
import random
import unittest
import weakref

from conflate.errors import InvalidLog, InvalidNumber, InvalidOrder, TooLarge
from conflate.orders import (
    broken_pair, count_orders, fewest_hidden, is_order, nth_order, order_number, run_for, walk_orders,
)
from tests import reference, values

CYCLE = [f"k{number % 8}" for number in range(60)]
PAIRS = [f"k{number // 2 % 8}" for number in range(60)]
MIXED = [random.Random(2).choice("abcdefgh") for _ in range(60)]
LARGE_LOGS = [CYCLE, PAIRS, MIXED, ["a"] * 60, ["a", "b"] * 30, list("abcdefgh") + ["h"] * 52]
DIFFERENT = [f"k{number}" for number in range(200)]


def count_by_sets(log):
    """The number of orders: for each set of items that have come, the next ones one by one."""
    before = [[first for first in range(second) if reference.surely_before(log, first, second)]
              for second in range(len(log))]
    masks = [sum(1 << first for first in firsts) for firsts in before]
    ways = {0: 1}
    for _ in log:
        longer = {}
        for come, many in ways.items():
            for item in range(len(log)):
                if not come >> item & 1 and masks[item] & ~come == 0:
                    longer[come | 1 << item] = longer.get(come | 1 << item, 0) + many
        ways = longer
    return sum(ways.values())


def wrong_lists(many):
    """Values that are not lists of all item numbers of a log of so many items, more than one."""
    right = list(range(many))
    lists = values.plain_values() + [
        0, 1, "", "01", (), tuple(right), dict.fromkeys(right), set(right), range(many), iter(right),
        [], right[1:], right[:-1], right + [many], [many] + right, right + [0], right + [None],
        [right], [tuple(right)], values.nested_in_itself(), [number + 1 for number in right],
        [-1] + right[1:], [number - many for number in right], [str(number) for number in right],
    ]
    for place in range(many):
        for wrong in values.wrong_items(many):
            lists.append(right[:place] + [wrong] + right[place + 1:])
        for twice in right:
            if twice != place:
                lists.append(right[:place] + [twice] + right[place + 1:])
    return lists


def no_orders(log):
    """Lists of all items of a short log that are not orders of it."""
    return [list(order) for order in itertools.permutations(range(len(log)))
            if not reference.keeps_the_log(log, order)]


class Examples(unittest.TestCase):
    def test_is_order(self):
        found = [is_order(["a", "b", "a"], order) for order in [[1, 0, 2], [0, 2, 1], [2, 0, 1]]]
        self.assertEqual(found, [True, True, False])

    def test_broken_pair(self):
        found = [broken_pair(["a", "a", "b", "b"], order) for order in [[0, 2, 1, 3], [0, 3, 1, 2]]]
        self.assertEqual(found, [None, (1, 3)])

    def test_fewest_hidden(self):
        found = [fewest_hidden(["a", "b", "c"], [2, 1, 0]), fewest_hidden(["a", "b", "a"], [0, 2, 1])]
        self.assertEqual(found, [2, 1])

    def test_run_for(self):
        run = run_for(["a", "b"], [1, 0])
        self.assertEqual(run, values.events("aba!!"))
        self.assertEqual(values.played_by_the_book(run)[1], [("a", 2), ("b", 1)])

    def test_count_orders(self):
        found = [count_orders(log) for log in [["a", "b", "c"], ["a", "b", "a"], ["a", "a", "b", "b"], []]]
        self.assertEqual(found, [6, 3, 2, 1])

    def test_numbers(self):
        found = [nth_order(["a", "b", "a"], 1), order_number(["a", "b", "a"], [1, 0, 2])]
        self.assertEqual(found, [[0, 2, 1], 2])

    def test_walk_orders(self):
        self.assertEqual(list(walk_orders(["a", "a", "b", "b"])), [[0, 1, 2, 3], [0, 2, 1, 3]])


class ShortLogs(unittest.TestCase):
    """All logs of at most 5 items, all orders tried, all runs played event by event."""

    def test_orders_are_those_of_all_runs(self):
        for log in reference.logs_up_to(5):
            played = sorted(list(order) for order in reference.played_orders(log))
            self.assertEqual(list(walk_orders(log)), played)
            self.assertEqual(reference.all_orders(log), played)

    def test_each_list_of_all_items(self):
        for log in reference.logs_up_to(5):
            for chosen in itertools.permutations(range(len(log))):
                order = list(chosen)
                broken = [
                    pair for pair in itertools.combinations(range(len(log)), 2)
                    if reference.surely_before(log, *pair) and order.index(pair[0]) > order.index(pair[1])
                ]
                with self.subTest(log=log, order=order):
                    self.assertIs(is_order(log, order), not broken)
                    self.assertEqual(broken_pair(log, order), min(broken, default=None))

    def test_fewest_hidden_writes(self):
        for log in reference.logs_up_to(5):
            for order, hidden in reference.played_orders(log).items():
                with self.subTest(log=log, order=order):
                    self.assertEqual(fewest_hidden(log, list(order)), hidden)
                    later_first = [
                        item for item in range(len(log))
                        if any(order.index(later) < order.index(item) for later in range(item + 1, len(log)))
                    ]
                    self.assertEqual(len(later_first), hidden)

    def test_runs(self):
        for log in reference.logs_up_to(5):
            for order, hidden in reference.played_orders(log).items():
                run = run_for(log, list(order))
                with self.subTest(log=log, order=order):
                    self.assertEqual(reference.log_of(run), log)
                    self.assertEqual(reference.order_of(run), list(order))
                    self.assertEqual(reference.hidden_of(run), hidden)

    def test_small_runs_have_orders_and_hide_enough(self):
        for run, _, shown, _ in values.small_runs():
            log, order = [key for key, _ in shown], reference.order_of(run)
            if not is_order(log, order) or fewest_hidden(log, order) > reference.hidden_of(run):
                self.fail(repr(run))

    def test_numbers(self):
        for log in reference.logs_up_to(5):
            orders = reference.all_orders(log)
            with self.subTest(log=log):
                self.assertEqual(count_orders(log), len(orders))
                self.assertEqual([nth_order(log, number) for number in range(len(orders))], orders)
                self.assertEqual([order_number(log, order) for order in orders], list(range(len(orders))))

    def test_what_can_come_next(self):
        """Point 30."""
        for log in reference.logs_up_to(5):
            orders = list(walk_orders(log))
            for begun in {tuple(order[:many]) for order in orders for many in range(len(log))}:
                least = min(set(range(len(log))) - set(begun))
                allowed = {
                    item for item in range(len(log))
                    if item not in begun and len(set(log[least:item + 1])) == max(item - least + 1, 0)
                }
                found = {order[len(begun)] for order in orders if tuple(order[:len(begun)]) == begun}
                self.assertEqual(found, allowed)
                self.assertLessEqual(len(found), len(set(log)))

    def test_other_logs_of_six_and_seven(self):
        for text in ["abcdef", "abcabc", "abcdea", "aabbcc", "abcddcb", "abacada", "abcdefg", "aaaaaaa"]:
            log = list(text)
            orders = reference.all_orders(log)
            self.assertEqual(list(walk_orders(log)), orders)
            self.assertEqual(count_orders(log), len(orders))
            for number in range(0, len(orders), 61):
                self.assertEqual(nth_order(log, number), orders[number])
                self.assertEqual(order_number(log, orders[number]), number)


class Edges(unittest.TestCase):
    def test_the_empty_log(self):
        self.assertIs(is_order([], []), True)
        self.assertIs(is_order([], [0]), False)
        self.assertIsNone(broken_pair([], []))
        self.assertEqual([fewest_hidden([], []), run_for([], [])], [0, []])
        self.assertEqual([count_orders([]), nth_order([], 0), order_number([], [])], [1, [], 0])
        self.assertEqual(list(walk_orders([])), [[]])

    def test_one_item(self):
        self.assertEqual(run_for(["a"], [0]), values.events("a!"))
        self.assertEqual([count_orders(["a"]), nth_order(["a"], 0), order_number(["a"], [0])], [1, [0], 0])
        self.assertEqual(list(walk_orders(["a"])), [[0]])

    def test_one_key_has_one_order(self):
        log = ["a"] * 60
        self.assertEqual(count_orders(log), 1)
        self.assertEqual(nth_order(log, 0), list(range(60)))
        self.assertEqual(list(walk_orders(["a"] * 200)), [list(range(200))])
        self.assertEqual(broken_pair(["a"] * 200, [1, 0] + list(range(2, 200))), (0, 1))
        self.assertEqual(broken_pair(["a"] * 200, list(reversed(range(200)))), (0, 1))

    def test_different_keys_have_all_orders(self):
        log = [f"k{number}" for number in range(8)]
        self.assertEqual(count_orders(log), 40320)
        self.assertEqual(nth_order(log, 40319), [7, 6, 5, 4, 3, 2, 1, 0])
        self.assertEqual(order_number(log, [7, 6, 5, 4, 3, 2, 1, 0]), 40319)
        self.assertIsNone(broken_pair(DIFFERENT, list(reversed(range(200)))))

    def test_repeats_of_neighbours(self):
        self.assertEqual(list(walk_orders(["a", "a"])), [[0, 1]])
        walked = list(walk_orders(["b", "a", "a", "c"]))
        self.assertEqual(walked, [[0, 1, 2, 3], [0, 1, 3, 2], [1, 0, 2, 3], [1, 0, 3, 2]])
        self.assertEqual(broken_pair(["b", "a", "a", "c"], [2, 1, 0, 3]), (0, 2))
        self.assertEqual(broken_pair(["b", "a", "a", "c"], [3, 0, 1, 2]), (0, 3))

    def test_the_least_broken_pair_of_long_logs(self):
        chance = random.Random(4)
        for log in LARGE_LOGS:
            order = nth_order(log, count_orders(log) // 2)
            for _ in range(20):
                left, right = chance.sample(range(60), 2)
                changed = list(order)
                changed[left], changed[right] = changed[right], changed[left]
                broken = [
                    pair for pair in itertools.combinations(range(60), 2)
                    if reference.surely_before(log, *pair) and changed.index(pair[0]) > changed.index(pair[1])
                ]
                self.assertEqual(broken_pair(log, changed), min(broken, default=None))
                self.assertIs(is_order(log, changed), not broken)

    def test_runs_of_200_items(self):
        for log in [DIFFERENT, ["a"] * 200, [f"k{number % 9}" for number in range(200)]]:
            keys = len(set(log))
            reverse = [item for start in range(0, 200, keys) for item in reversed(range(200)[start:start + keys])]
            for order in [list(range(200)), reverse]:
                run = run_for(log, order)
                self.assertLessEqual(len(run), 1000)
                self.assertEqual(reference.log_of(run), log)
                self.assertEqual(reference.order_of(run), order)
                self.assertEqual(reference.hidden_of(run), fewest_hidden(log, order))
        self.assertEqual(fewest_hidden(DIFFERENT, list(reversed(range(200)))), 199)

    def test_kinds_of_results(self):
        log = ["a", "b", "a"]
        self.assertIs(type(is_order(log, [0, 1, 2])), bool)
        self.assertIs(type(broken_pair(log, [2, 1, 0])), tuple)
        self.assertEqual([type(fewest_hidden(log, [0, 2, 1])), type(count_orders(log))], [int, int])
        self.assertEqual([type(nth_order(log, 0)), type(order_number(log, [0, 1, 2]))], [list, int])


class Numbers(unittest.TestCase):
    def test_counts_of_large_logs(self):
        for log in LARGE_LOGS:
            with self.subTest(log=log):
                self.assertEqual(count_orders(log), count_by_sets(log))

    def test_numbers_of_large_logs(self):
        chance = random.Random(3)
        for log in LARGE_LOGS:
            many = count_orders(log)
            numbers = {0, many - 1, many // 2} | {chance.randrange(many) for _ in range(10)}
            orders = []
            for number in sorted(numbers):
                order = nth_order(log, number)
                self.assertTrue(reference.keeps_the_log(log, order))
                self.assertEqual(order_number(log, order), number)
                orders.append(order)
            self.assertEqual(orders, sorted(orders))
            self.assertEqual(orders[0], list(range(60)))

    def test_the_first_orders_have_the_first_numbers(self):
        for log in LARGE_LOGS:
            walked = list(itertools.islice(walk_orders(log), 40))
            self.assertEqual(walked, [nth_order(log, number) for number in range(len(walked))])
            self.assertEqual(len(walked), min(40, count_orders(log)))

    def test_too_large(self):
        nine = [f"k{number}" for number in range(9)]
        for log, limit in [
            (["a"] * 61, 60), (CYCLE + ["k0"], 60), (nine * 7, 60), (DIFFERENT, 60), (nine, 8), (nine * 6, 8),
            (CYCLE[:59] + ["other"], 8),
        ]:
            order = list(range(len(log)))
            for function, *more in [(count_orders,), (nth_order, 0), (order_number, order)]:
                with self.subTest(items=len(log), function=function.__name__):
                    with self.assertRaises(TooLarge) as caught:
                        function(log, *more)
                    self.assertIs(type(caught.exception), TooLarge)
                    self.assertEqual(caught.exception.limit, limit)

    def test_only_numbering_is_limited(self):
        for log in [["a"] * 61, DIFFERENT, [f"k{number % 9}" for number in range(61)]]:
            order = list(range(len(log)))
            self.assertIs(is_order(log, order), True)
            self.assertIsNone(broken_pair(log, order))
            self.assertEqual(fewest_hidden(log, order), 0)
            self.assertEqual(len(run_for(log, order)), 2 * len(log))
            self.assertEqual(next(iter(walk_orders(log))), order)


class Walks(unittest.TestCase):
    def test_it_is_a_generator(self):
        self.assertTrue(inspect.isgenerator(walk_orders(["a"])))

    def test_orders_are_computed_one_by_one(self):
        walk = walk_orders(DIFFERENT)
        last_four = [order for order in itertools.permutations(range(196, 200))]
        for expected in last_four:
            self.assertEqual(next(walk), list(range(196)) + list(expected))
        self.assertEqual(next(walk), list(range(195)) + [196, 195, 197, 198, 199])

    def test_each_order_is_a_new_list(self):
        log = list("abcab")
        kept = reference.all_orders(log)
        walk = walk_orders(log)
        for expected in kept:
            order = next(walk)
            self.assertEqual(order, expected)
            order.reverse()
            order.append("zz")
        self.assertEqual(list(walk), [])
        self.assertEqual(log, list("abcab"))

    def test_the_log_is_read_with_the_first_request(self):
        log = list("abcab")
        expected = reference.all_orders(log)
        walk = walk_orders(log)
        found = [next(walk)]
        log.clear()
        self.assertEqual(found + list(walk), expected)

    def test_the_log_is_not_kept(self):
        class Log(list):
            """A list that can be watched."""

        log = Log("abcab")
        watched = weakref.ref(log)
        walk = walk_orders(log)
        next(walk)
        del log
        gc.collect()
        self.assertIsNone(watched())
        self.assertEqual(next(walk), [0, 1, 2, 4, 3])

    def test_two_walks_do_not_meet(self):
        log = list("abca")
        first, second = walk_orders(log), walk_orders(log)
        found = [order for pair in zip(first, second) for order in pair]
        self.assertEqual(found[::2], reference.all_orders(log))
        self.assertEqual(found[1::2], reference.all_orders(log))

    def test_long_logs(self):
        for log in [DIFFERENT, [f"k{number % 50}" for number in range(200)], ["a", "b"] * 100]:
            walked = list(itertools.islice(walk_orders(log), 300))
            self.assertEqual(walked, sorted(walked))
            self.assertEqual(len({tuple(order) for order in walked}), 300)
            for order in walked[::50]:
                self.assertTrue(reference.keeps_the_log(log, order))

    def test_wrong_logs(self):
        for log in values.wrong_logs():
            with self.assertRaises(InvalidLog) as caught:
                next(walk_orders(log))
            self.assertIs(type(caught.exception), InvalidLog)


class Wrong(unittest.TestCase):
    log = ["a", "b", "a"]

    def check(self, error, function, *arguments):
        with self.assertRaises(error) as caught:
            function(*arguments)
        self.assertIs(type(caught.exception), error)

    def test_logs(self):
        for log in values.wrong_logs():
            self.check(InvalidLog, count_orders, log)
            self.check(InvalidLog, nth_order, log, 0)
            for function in (is_order, broken_pair, fewest_hidden, run_for, order_number):
                self.check(InvalidLog, function, log, [0, 1])

    def test_the_log_is_looked_at_first(self):
        for wrong in (None, -1, [0, 0], values.Hostile()):
            for function in (is_order, broken_pair, fewest_hidden, run_for, order_number, nth_order):
                self.check(InvalidLog, function, ["a"] * 61 + ["A"], wrong)

    def test_lists_that_are_not_of_all_items(self):
        for order in wrong_lists(3):
            self.assertIs(is_order(self.log, order), False)
            for function in (broken_pair, fewest_hidden, run_for, order_number):
                self.check(InvalidOrder, function, self.log, order)

    def test_lists_that_are_not_orders(self):
        for log in reference.logs_up_to(4):
            for order in no_orders(log):
                for function in (fewest_hidden, run_for, order_number):
                    self.check(InvalidOrder, function, log, order)

    def test_the_order_is_looked_at_before_the_size(self):
        for log in (["a"] * 61, [f"k{number}" for number in range(9)]):
            self.check(InvalidOrder, order_number, log, [])
        self.check(InvalidOrder, order_number, ["a"] * 61, [1, 0] + list(range(2, 61)))

    def test_numbers(self):
        for log in ([], ["a"], self.log, MIXED):
            for number in values.wrong_items(count_orders(log)):
                self.check(InvalidNumber, nth_order, log, number)

    def test_the_size_is_looked_at_before_the_number(self):
        for number in (-1, None, "0", values.Hostile()):
            self.check(TooLarge, nth_order, ["a"] * 61, number)
            self.check(TooLarge, nth_order, [f"k{key}" for key in range(9)], number)


if __name__ == "__main__":
    unittest.main()
