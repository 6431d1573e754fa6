"""Point 2 and the interface: arguments stay, results are new, names stand where they belong."""

import copy
import inspect
import unittest

from conflate import chains, cuts, given, keys, mirrors, orders, pairs, queues, relations, texts
from conflate.chains import (
    is_chain, is_reversed, is_sure_through, reversed_chain, sure_depth, sure_from, traced,
)
from conflate.console import Console
from conflate.cuts import (
    contents_after, greatest_cut, least_cut, standing_of, sure_moments, why_impossible,
)
from conflate.errors import ConflateError
from conflate.given import count_logs, first_wrong, is_log_of, log_number, next_items, nth_log, run_of
from conflate.hub import Hub
from conflate.keys import entries_of, is_counted, is_log, is_run, keys_of, last_counts, previous_items
from conflate.mirrors import (
    history_of, is_consistent, is_direct, is_history, is_ring, marked_writes, ring_in,
)
from conflate.orders import (
    broken_pair, count_orders, fewest_hidden, is_order, nth_order, order_number, run_for, walk_orders,
)
from conflate.pairs import is_sure, repeat_end, reversed_run, sure_counts, why_sure
from conflate.queues import (
    earliest_run, first_fault, hidden_in, shown_by, waiting_after, writes_of,
)
from conflate.relations import history_with, is_before, path_between, unordered_with
from conflate.texts import format_counted, format_log, format_run, parse_counted, parse_log, parse_run
from tests import values
from tests.values import SEND, events, w

INTERFACE = {
    keys: [
        ("is_key", ["value"]), ("is_log", ["value"]), ("is_counted", ["value"]), ("is_run", ["value"]),
        ("keys_of", ["counted"]), ("last_counts", ["counted"]), ("previous_items", ["log"]),
        ("entries_of", ["counted"]),
    ],
    queues: [
        ("writes_of", ["run"]), ("shown_by", ["run"]), ("waiting_after", ["run"]), ("hidden_in", ["run"]),
        ("first_fault", ["events"]), ("earliest_run", ["run"]),
    ],
    pairs: [
        ("repeat_end", ["log", "item"]), ("sure_counts", ["log"]), ("is_sure", ["log", "first", "second"]),
        ("why_sure", ["log", "first", "second"]), ("reversed_run", ["log", "first", "second"]),
    ],
    orders: [
        ("is_order", ["log", "value"]), ("broken_pair", ["log", "order"]), ("fewest_hidden", ["log", "order"]),
        ("run_for", ["log", "order"]), ("count_orders", ["log"]), ("nth_order", ["log", "number"]),
        ("order_number", ["log", "order"]), ("walk_orders", ["log"]),
    ],
    chains: [
        ("is_chain", ["value"]), ("is_sure_through", ["log", "queues", "first", "second"]),
        ("is_reversed", ["log", "queues", "first", "second", "value"]), ("traced", ["chain"]),
        ("sure_from", ["log", "queues", "first"]), ("sure_depth", ["log", "first", "second"]),
        ("reversed_chain", ["log", "queues", "first", "second"]),
    ],
    given: [
        ("next_items", ["writes", "counted"]), ("is_log_of", ["writes", "counted"]),
        ("first_wrong", ["writes", "counted"]), ("count_logs", ["writes"]), ("nth_log", ["writes", "number"]),
        ("log_number", ["writes", "counted"]), ("run_of", ["writes", "counted"]),
    ],
    mirrors: [
        ("marked_writes", ["logs"]), ("history_of", ["logs"]), ("is_direct", ["logs", "write", "other"]),
        ("is_consistent", ["logs"]), ("is_ring", ["logs", "value"]), ("is_history", ["logs", "value"]),
        ("ring_in", ["logs"]),
    ],
    relations: [
        ("is_before", ["logs", "write", "other"]), ("path_between", ["logs", "write", "other"]),
        ("history_with", ["logs", "first", "second"]), ("unordered_with", ["logs", "write"]),
    ],
    cuts: [
        ("standing_of", ["logs", "cut"]), ("why_impossible", ["logs", "cut"]), ("least_cut", ["logs", "write"]),
        ("greatest_cut", ["logs", "write"]), ("contents_after", ["counted", "items"]),
        ("sure_moments", ["logs", "mirror"]),
    ],
    texts: [
        ("format_log", ["log"]), ("format_counted", ["counted"]), ("format_run", ["run"]), ("parse_log", ["text"]),
        ("parse_counted", ["text"]), ("parse_run", ["text"]),
    ],
}
COUNTED = [("b", 2), ("a", 1), ("b", 5)]
LOG = ["b", "a", "b", "b"]
RUN = events("ab!ab!bba")
SURE = ["b", "a", "a", "c"]
CHAIN = [events("b!aba!!"), events("bab!!")]
WRITES = ["a", "b", "a", "b", "c"]
OF_WRITES = [("a", 2), ("b", 2)]
LOGS = [[("a", 2), ("b", 1)], [("a", 1), ("b", 1), ("a", 2)], []]
WRONG_WAY = [[("a", 2), ("b", 1)], [("b", 1), ("a", 2)]]


def calls():
    """Each function with arguments that it accepts; of each kind of result at least one."""
    return [
        (keys_of, COUNTED), (last_counts, COUNTED), (previous_items, LOG), (entries_of, COUNTED),
        (writes_of, RUN), (shown_by, RUN), (waiting_after, RUN), (hidden_in, RUN), (earliest_run, RUN),
        (earliest_run, earliest_run(RUN)), (first_fault, RUN), (first_fault, events("a!!")),
        (is_log, LOG), (is_counted, COUNTED), (is_run, RUN),
        (repeat_end, SURE, 0), (sure_counts, SURE), (is_sure, SURE, 0, 3), (why_sure, SURE, 0, 3),
        (reversed_run, SURE, 2, 3), (reversed_run, SURE, 3, 2), (reversed_run, SURE, 0, 3),
        (is_order, SURE, [0, 1, 3, 2]), (broken_pair, SURE, [0, 2, 1, 3]), (fewest_hidden, SURE, [0, 1, 3, 2]),
        (run_for, SURE, [1, 0, 3, 2]), (run_for, SURE, [0, 1, 2, 3]), (count_orders, SURE),
        (nth_order, SURE, 2), (order_number, SURE, [1, 0, 2, 3]), (all_walked, SURE),
        (is_chain, CHAIN), (traced, CHAIN), (traced, CHAIN[:1]), (is_sure_through, SURE, 2, 0, 3),
        (sure_from, SURE, 1, 0), (sure_depth, SURE, 0, 3), (reversed_chain, SURE, 2, 0, 3),
        (reversed_chain, SURE, 1, 0, 1), (is_reversed, ["a", "b"], 1, 0, 1, [events("aba!!")]),
        (next_items, WRITES, OF_WRITES), (is_log_of, WRITES, OF_WRITES), (first_wrong, WRITES, [("a", 3)]),
        (count_logs, WRITES), (nth_log, WRITES, 5), (log_number, WRITES, OF_WRITES), (run_of, WRITES, OF_WRITES),
        (marked_writes, LOGS), (history_of, LOGS), (is_direct, LOGS, ("b", 1), ("a", 2)), (is_consistent, LOGS),
        (ring_in, WRONG_WAY), (is_ring, WRONG_WAY, [("a", 1), ("b", 1)]),
        (is_history, LOGS, [("a", 1), ("b", 1), ("a", 2)]), (is_before, LOGS, ("a", 1), ("b", 1)),
        (path_between, LOGS, ("a", 1), ("a", 2)), (history_with, LOGS[:1], ("b", 1), ("a", 2)),
        (history_with, LOGS[:1], ("a", 2), ("b", 1)), (unordered_with, LOGS[:1], ("a", 2)),
        (standing_of, LOGS, {"b": 1, "a": 1}), (why_impossible, LOGS, {"b": 1, "a": 0}), (least_cut, LOGS, ("b", 1)),
        (greatest_cut, LOGS, ("b", 1)), (contents_after, COUNTED, 2), (sure_moments, LOGS, 1),
        (format_log, LOG), (format_counted, COUNTED), (format_run, RUN), (parse_log, "b a b"),
        (parse_counted, "b#2 a#1 b#5"), (parse_run, "+a +b ! +a"),
    ]


def all_walked(log):
    return list(walk_orders(log))


KINDS = {
    dict: [last_counts, least_cut, greatest_cut, contents_after],
    str: [standing_of, format_log, format_counted, format_run],
    bool: [
        is_log, is_counted, is_run, is_sure, is_order, is_chain, is_sure_through, is_reversed, is_log_of, is_direct,
        is_consistent, is_ring, is_history, is_before,
    ],
    int: [
        repeat_end, fewest_hidden, count_orders, order_number, sure_from, sure_depth, first_wrong, count_logs, log_number,
    ],
    tuple: [why_sure, broken_pair, why_impossible],
}
NONE_OR_A_NUMBER = [
    (first_fault, RUN), (first_fault, events("a!!")), (reversed_run, SURE, 0, 3),
]


class Interface(unittest.TestCase):
    def test_names_and_arguments(self):
        for module, functions in INTERFACE.items():
            for name, arguments in functions:
                with self.subTest(name=name):
                    function = getattr(module, name)
                    self.assertTrue(inspect.isfunction(function))
                    self.assertEqual(function.__module__, module.__name__)
                    self.assertEqual(function.__name__, name)
                    self.assertEqual(list(inspect.signature(function).parameters), arguments)

    def test_kinds_of_results(self):
        for function, *given in calls():
            with self.subTest(function=function.__name__):
                result = function(*given)
                if (function, *given) in NONE_OR_A_NUMBER:
                    self.assertIn(result, [None, 2])
                else:
                    kinds = [kind for kind, functions in KINDS.items() if function in functions]
                    self.assertIs(type(result), kinds[0] if kinds else list)

    def test_kinds_of_parts(self):
        for function in (shown_by, waiting_after, hidden_in):
            for part in function(RUN):
                self.assertIs(type(part), tuple)
                self.assertEqual([type(field) for field in part], [str, int])
        for part in earliest_run(RUN):
            self.assertIs(type(part), tuple)


class Arguments(unittest.TestCase):
    def test_arguments_do_not_change(self):
        for function, *given in calls():
            with self.subTest(function=function.__name__):
                before = copy.deepcopy(given)
                parts = [id(part) for value in given if isinstance(value, list) for part in value]
                function(*given)
                self.assertEqual(given, before)
                found = [id(part) for value in given if isinstance(value, list) for part in value]
                self.assertEqual(found, parts)

    def test_arguments_do_not_change_when_an_error_is_raised(self):
        wrong = [
            (keys_of, [("a", 2), ("b", 1), ("a", 2)]), (last_counts, [("a", 2), ("b", 1), ("a", 2)]),
            (entries_of, [("a", 2), ("b", 1), ("a", 2)]), (previous_items, ["a", "b", "A", "a"]),
            (writes_of, events("ab!!!a")), (shown_by, events("ab!!!a")), (waiting_after, events("ab!!!a")),
            (hidden_in, events("ab!!!a")), (earliest_run, events("ab!!!a")),
            (first_fault, [w("a"), SEND, ["send"]]),
            (repeat_end, SURE, 4), (sure_counts, SURE + ["A"]), (is_sure, SURE, 1, 1), (why_sure, SURE, 1, 1),
            (reversed_run, SURE, 1, 1), (is_order, SURE + ["A"], [0]), (broken_pair, SURE, [0, 1, 2, 2]),
            (fewest_hidden, SURE, [3, 2, 1, 0]), (run_for, SURE, [3, 2, 1, 0]), (count_orders, ["a"] * 61),
            (nth_order, SURE, 4), (order_number, SURE, [3, 2, 1, 0]), (all_walked, SURE + ["A"]),
            (traced, [CHAIN[1], CHAIN[0]]), (is_sure_through, SURE, 0, 0, 3), (sure_from, SURE, 0, 0),
            (sure_depth, SURE, 3, 0), (reversed_chain, SURE, 0, 0, 3), (is_reversed, SURE, 0, 0, 3, CHAIN),
            (next_items, WRITES, [("a", 3)]), (log_number, WRITES, [("b", 1)]), (run_of, WRITES, [("a", 3)]),
            (is_log_of, WRITES, [("a", 0)]), (first_wrong, list("abcdefg"), OF_WRITES), (nth_log, WRITES, -1),
            (count_logs, list("abcdefg")), (marked_writes, LOGS + [["a"]]), (ring_in, []), (is_consistent, []),
            (history_of, WRONG_WAY), (is_direct, LOGS, ("a", 1), ("a", 3)), (is_before, WRONG_WAY, ("a", 1), ("b", 1)),
            (is_ring, [], []), (is_history, [None], []), (path_between, LOGS, ("a", 0), ("b", 1)),
            (history_with, WRONG_WAY, ("a", 1), ("b", 1)), (unordered_with, WRONG_WAY, ("a", 1)),
            (standing_of, LOGS, {"b": 2, "a": 1}), (why_impossible, LOGS, {"b": 1}), (least_cut, WRONG_WAY, ("b", 1)),
            (greatest_cut, LOGS, ("b", 2)), (contents_after, COUNTED, 4), (sure_moments, WRONG_WAY, 0),
            (format_log, ["a", "A"]), (format_counted, [("a", 1), ("a", 1)]), (format_run, events("a!!")),
            (parse_log, ["a"]), (parse_counted, "a#1 a#1"), (parse_run, ["+a"]),
        ]
        for function, *given in wrong:
            with self.subTest(function=function.__name__):
                before = copy.deepcopy(given)
                with self.assertRaises(ConflateError):
                    function(*given)
                self.assertEqual(given, before)

    def test_a_value_changed_in_place_is_read_anew(self):
        counted = list(COUNTED)
        self.assertEqual(entries_of(counted), [("b", 1), ("a", 1), ("b", 3)])
        counted[0] = ("a", 7)
        counted[1] = ("a", 9)
        self.assertEqual(keys_of(counted), ["a", "a", "b"])
        self.assertEqual(last_counts(counted), {"a": 9, "b": 5})
        self.assertEqual(entries_of(counted), [("a", 1), ("a", 8), ("b", 1)])
        counted.append(("b", 5))
        self.assertIs(is_counted(counted), False)

    def test_a_log_changed_in_place_is_read_anew(self):
        log = list(LOG)
        self.assertEqual(previous_items(log), [None, None, 0, 2])
        log[2] = "a"
        self.assertEqual(previous_items(log), [None, None, 1, 0])
        log[2] = "A"
        self.assertIs(is_log(log), False)

    def test_a_log_changed_in_place_has_other_pairs_and_orders(self):
        log, order = list(SURE), [1, 0, 3, 2]
        self.assertEqual([sure_counts(log), count_orders(log)], [[0, 0, 2, 2], 4])
        self.assertEqual([repeat_end(log, 0), is_sure(log, 0, 3), sure_depth(log, 0, 3)], [2, True, 1])
        self.assertIs(is_order(log, order), True)
        log[2] = "d"
        self.assertEqual([sure_counts(log), count_orders(log)], [[0, 0, 0, 0], 24])
        self.assertEqual([repeat_end(log, 0), is_sure(log, 0, 3), sure_depth(log, 0, 3)], [None, False, 0])
        self.assertEqual(order_number(log, order), 7)
        order.reverse()
        self.assertEqual(order_number(log, order), 16)
        log[2] = "D"
        for function, *more in [(sure_counts,), (is_order, order), (sure_from, 1, 0)]:
            with self.assertRaises(ConflateError):
                function(log, *more)

    def test_given_writes_changed_in_place_are_read_anew(self):
        writes, counted = list(WRITES), list(OF_WRITES)
        self.assertEqual([log_number(writes, counted), is_log_of(writes, counted)], [count_logs(writes) - 2, True])
        writes.append("a")
        self.assertEqual(next_items(writes, [("a", 2)]), [("b", 1), ("b", 2)])
        self.assertEqual(nth_log(writes, count_logs(writes) - 1)[0], ("a", 3))
        counted.append(("b", 3))
        self.assertEqual(first_wrong(writes, counted), 2)

    def test_logs_of_mirrors_changed_in_place_are_read_anew(self):
        logs = copy.deepcopy(LOGS)
        self.assertEqual([is_before(logs, ("b", 1), ("a", 2)), ring_in(logs)], [True, None])
        del logs[1][0]
        self.assertIs(is_ring(logs, ring_in(logs)), True)
        del logs[1:]
        self.assertEqual([unordered_with(logs, ("a", 2)), is_consistent(logs)], [[("b", 1)], True])
        logs[0].append(("c", 3))
        self.assertEqual(marked_writes(logs), [("a", 1), ("a", 2), ("b", 1), ("c", 1), ("c", 3)])
        logs[0].append(("c", 3))
        with self.assertRaises(ConflateError):
            is_consistent(logs)

    def test_a_cut_changed_in_place_is_read_anew(self):
        logs, cut = copy.deepcopy(LOGS), {"b": 1, "a": 1}
        self.assertEqual([standing_of(logs, cut), sure_moments(logs, 0)], ["sure", [0, 2]])
        cut["a"] = 0
        self.assertEqual([standing_of(logs, cut), why_impossible(logs, cut)], ["impossible", (("a", 1), ("b", 1))])
        del logs[1]
        cut["a"] = 1
        self.assertEqual([standing_of(logs, cut), least_cut(logs, ("a", 2))], ["possible", {"a": 2, "b": 0}])
        logs[0][0] = ("a", 3)
        self.assertEqual([standing_of(logs, cut), greatest_cut(logs, ("a", 3))], ["possible", {"a": 2, "b": 1}])

    def test_a_chain_changed_in_place_is_read_anew(self):
        chain = copy.deepcopy(CHAIN)
        self.assertEqual(traced(chain), [2, 3])
        chain[1].pop()
        self.assertEqual(traced(chain), [2])
        chain[0].pop()
        self.assertIs(is_chain(chain), False)

    def test_a_run_changed_in_place_is_read_anew(self):
        run = events("ab!")
        found = [writes_of(run), shown_by(run), waiting_after(run), hidden_in(run), earliest_run(run)]
        self.assertEqual(found, [["a", "b"], [("a", 1)], [("b", 1)], [], events("a!b")])
        run[1] = w("a")
        found = [writes_of(run), shown_by(run), waiting_after(run), hidden_in(run), earliest_run(run)]
        self.assertEqual(found, [["a", "a"], [("a", 2)], [], [("a", 1)], events("aa!")])
        self.assertIsNone(first_fault(run))
        run.append(SEND)
        self.assertEqual([is_run(run), first_fault(run)], [False, 3])
        del run[3]
        self.assertEqual([is_run(run), first_fault(run)], [True, None])


class Results(unittest.TestCase):
    with_lists = [call for call in calls() if isinstance(call[0](*call[1:]), (list, dict))]

    def test_results_are_new_objects(self):
        for function, *given in self.with_lists:
            with self.subTest(function=function.__name__):
                result = function(*given)
                for other in [*given, function(*given)]:
                    self.assertIsNot(result, other)

    def test_parts_of_results_are_new_objects(self):
        for function, *given in self.with_lists:
            with self.subTest(function=function.__name__):
                old = [part for value in given if isinstance(value, list) for part in value]
                old += list(function(*given))
                kept = [id(part) for part in old if isinstance(part, list)]
                for part in function(*given):
                    self.assertNotIn(id(part), kept)

    def test_changing_a_result_has_no_effect(self):
        for function, *given in self.with_lists:
            with self.subTest(function=function.__name__):
                result = function(*given)
                before, kept = copy.deepcopy(given), copy.deepcopy(result)
                change(result)
                self.assertEqual(given, before)
                self.assertEqual(function(*given), kept)

    def test_empty_results_are_new_objects(self):
        for function in (
            keys_of, previous_items, entries_of, writes_of, shown_by, waiting_after, hidden_in, earliest_run,
            sure_counts,
        ):
            with self.subTest(function=function.__name__):
                given = []
                function(given).append("zz")
                self.assertEqual(given, [])
                self.assertEqual(function([]), [])
        for function, *given in [
            (last_counts, []), (contents_after, [], 0), (contents_after, [("a", 1)], 0),
        ]:
            function(*given)["zz"] = 1
            self.assertEqual(function(*given), {})
        for function in (parse_log, parse_counted, parse_run):
            function("").append("zz")
            self.assertEqual(function(""), [])
        for function, *given in [
            (run_for, [], []), (nth_order, [], 0), (traced, [[]]), (next_items, [], []), (nth_log, [], 0),
            (run_of, [], []), (marked_writes, [[]]), (history_of, [[]]), (unordered_with, [[("a", 1)]], ("a", 1)),
        ]:
            function(*given).append("zz")
            self.assertEqual(function(*given), [])

    def test_equal_arguments_give_equal_results(self):
        for function, *given in calls():
            with self.subTest(function=function.__name__):
                self.assertEqual(function(*given), function(*copy.deepcopy(given)))

    def test_results_are_accepted_as_arguments(self):
        run = values.long_run()
        for given in (run, earliest_run(run)):
            shown = shown_by(given)
            self.assertIs(is_counted(shown), True)
            self.assertIs(is_log(writes_of(given)), True)
            self.assertIs(is_counted(entries_of(shown)), True)
            self.assertIs(is_counted(waiting_after(given)), True)
            self.assertIs(is_counted(hidden_in(given)), True)
            self.assertEqual(len(previous_items(keys_of(shown))), len(shown))

    def test_writes_and_logs_are_accepted_as_arguments(self):
        run = events("abab!c!aba!!")
        counted = shown_by(run)
        self.assertIs(is_log_of(writes_of(run), counted), True)
        self.assertEqual(run_of(writes_of(run), counted), earliest_run(run))
        self.assertEqual(log_number(writes_of(run), nth_log(writes_of(run), 7)), 7)
        logs = [counted, shown_by(run_of(writes_of(run), counted[:2])), nth_log(writes_of(run), 7)]
        self.assertIs(is_history(logs, history_of(logs)), True)
        self.assertIs(is_ring(WRONG_WAY, ring_in(WRONG_WAY)), True)
        for write in marked_writes(logs)[1:]:
            self.assertIs(is_history(logs, history_with(logs, marked_writes(logs)[0], write)), True)
            for other in unordered_with(logs, write):
                self.assertIsNone(path_between(logs, write, other))

    def test_results_of_a_hub_are_accepted_as_arguments(self):
        hub = Hub.from_run(events("abab!c!aba!!"))
        hub.attach()
        hub.send_all(1, most=2)
        logs = [hub.log_of(mirror) for mirror in range(hub.mirror_count)]
        for log in logs + [hub.waiting_in(1), list(hub.contents.items())]:
            self.assertEqual(parse_counted(format_counted(log)), log)
        cut = least_cut(logs, logs[0][-1])
        self.assertNotEqual(standing_of(logs, cut), "impossible")
        self.assertEqual(parse_run(format_run(earliest_run(events("ab!a!")))), earliest_run(events("ab!a!")))
        self.assertEqual(parse_log(format_log(keys_of(logs[0]))), keys_of(logs[0]))
        for moment in sure_moments(logs, 1):
            self.assertEqual(standing_of(logs, {"a": 0, "b": 0, "c": 0, **contents_after(logs[1], moment)}), "sure")

    def test_runs_and_chains_are_accepted_as_arguments(self):
        for run in (reversed_run(SURE, 2, 3), run_for(SURE, nth_order(SURE, 3))):
            self.assertEqual(keys_of(shown_by(run)), SURE)
            self.assertEqual(traced([run]), traced([earliest_run(run)]))
        chain = reversed_chain(SURE, 2, 0, 3)
        self.assertIs(is_chain(chain), True)
        self.assertIs(is_chain(chain[:1]), True)
        self.assertEqual(keys_of(shown_by(chain[-1])), SURE)


class Objects(unittest.TestCase):
    def test_equal_calls_give_equal_objects(self):
        hubs = [Hub.from_run(RUN), Hub.from_run(RUN)]
        for hub in hubs:
            hub.attach()
            hub.write_key("c")
            hub.send_all(1, most=2)
        self.assertIs(hubs[0] == hubs[1], True)
        self.assertEqual(*[[hub.log_of(1), hub.waiting_in(0), hub.contents, len(hub)] for hub in hubs])

    def test_results_of_a_hub_are_new_objects(self):
        hub = Hub.from_run(RUN)
        hub.attach()
        calls = [(hub.log_of, 0), (hub.waiting_in, 0), (hub.waiting_in, 1), (hub.send_all, 1), (hub.log_of, 1)]
        for call, mirror in calls:
            before = [hub.log_of(0), hub.waiting_in(0), hub.contents]
            found = call(mirror)
            kept = [hub.log_of(1), hub.waiting_in(1)]
            change(found)
            self.assertEqual([hub.log_of(0), hub.waiting_in(0), hub.contents], before)
            self.assertEqual([hub.log_of(1), hub.waiting_in(1)], kept)
        change(hub.contents)
        self.assertEqual(hub.contents, {"a": 3, "b": 4})
        self.assertIsNot(hub.contents, hub.contents)

    def test_a_console_answers_the_same_each_time(self):
        rows = ["attach", "write a b a", "send 0", "contents", "log 0", "waiting 0", "moments 0", "undo"]
        consoles = [Console(), Console()]
        self.assertEqual(*[[console.execute(row) for row in rows] for console in consoles])
        self.assertEqual(consoles[0].execute("waiting 0"), consoles[0].execute("waiting 0"))


def change(result):
    """Change a list or a dict, and the lists in it."""
    if isinstance(result, dict):
        result["a"] = 77
        result["zz"] = 1
    else:
        for part in result:
            if isinstance(part, list):
                part.append("zz")
        result.reverse()
        result.append(("zz", 1))


if __name__ == "__main__":
    unittest.main()
