"""Point 2 and the interface: arguments stay, results are new, names stand where they belong."""

import copy
import inspect
import unittest

from conflate import keys, queues
from conflate.errors import ConflateError
from conflate.keys import entries_of, is_counted, is_log, is_run, keys_of, last_counts, previous_items
from conflate.queues import (
    earliest_run, first_fault, hidden_in, shown_by, waiting_after, writes_of,
)
from tests import values
from tests.values import SEND, events, w

INTERFACE = {
    keys: [
        ("is_key", ["value"]), ("is_log", ["value"]), ("is_counted", ["value"]), ("is_run", ["value"]),
        ("keys_of", ["counted"]), ("last_counts", ["counted"]), ("previous_items", ["log"]),
        ("entries_of", ["counted"]),
    ],
    queues: [
        ("writes_of", ["run"]), ("shown_by", ["run"]), ("waiting_after", ["run"]), ("hidden_in", ["run"]),
        ("first_fault", ["events"]), ("earliest_run", ["run"]),
    ],
}
COUNTED = [("b", 2), ("a", 1), ("b", 5)]
LOG = ["b", "a", "b", "b"]
RUN = events("ab!ab!bba")


def calls():
    """Each function with an argument that it accepts, the ones that give a list or a dict first."""
    return [
        (keys_of, COUNTED), (last_counts, COUNTED), (previous_items, LOG), (entries_of, COUNTED),
        (writes_of, RUN), (shown_by, RUN), (waiting_after, RUN), (hidden_in, RUN), (earliest_run, RUN),
        (earliest_run, earliest_run(RUN)), (first_fault, RUN), (first_fault, events("a!!")),
        (is_log, LOG), (is_counted, COUNTED), (is_run, RUN),
    ]


class Interface(unittest.TestCase):
    def test_names_and_arguments(self):
        for module, functions in INTERFACE.items():
            for name, arguments in functions:
                with self.subTest(name=name):
                    function = getattr(module, name)
                    self.assertTrue(inspect.isfunction(function))
                    self.assertEqual(function.__module__, module.__name__)
                    self.assertEqual(function.__name__, name)
                    self.assertEqual(list(inspect.signature(function).parameters), arguments)

    def test_kinds_of_results(self):
        for function, value in calls():
            with self.subTest(function=function.__name__):
                result = function(value)
                if function is last_counts:
                    self.assertIs(type(result), dict)
                elif function in (is_log, is_counted, is_run):
                    self.assertIs(type(result), bool)
                elif function is first_fault:
                    self.assertIn(result, [None, 2])
                else:
                    self.assertIs(type(result), list)

    def test_kinds_of_parts(self):
        for function in (shown_by, waiting_after, hidden_in):
            for part in function(RUN):
                self.assertIs(type(part), tuple)
                self.assertEqual([type(field) for field in part], [str, int])
        for part in earliest_run(RUN):
            self.assertIs(type(part), tuple)


class Arguments(unittest.TestCase):
    def test_arguments_do_not_change(self):
        for function, value in calls():
            with self.subTest(function=function.__name__):
                before = copy.deepcopy(value)
                parts = [id(part) for part in value]
                function(value)
                self.assertEqual(value, before)
                self.assertEqual([id(part) for part in value], parts)

    def test_arguments_do_not_change_when_an_error_is_raised(self):
        wrong = [
            (keys_of, [("a", 2), ("b", 1), ("a", 2)]), (last_counts, [("a", 2), ("b", 1), ("a", 2)]),
            (entries_of, [("a", 2), ("b", 1), ("a", 2)]), (previous_items, ["a", "b", "A", "a"]),
            (writes_of, events("ab!!!a")), (shown_by, events("ab!!!a")), (waiting_after, events("ab!!!a")),
            (hidden_in, events("ab!!!a")), (earliest_run, events("ab!!!a")),
            (first_fault, [w("a"), SEND, ["send"]]),
        ]
        for function, value in wrong:
            with self.subTest(function=function.__name__):
                before = copy.deepcopy(value)
                with self.assertRaises(ConflateError):
                    function(value)
                self.assertEqual(value, before)

    def test_a_value_changed_in_place_is_read_anew(self):
        counted = list(COUNTED)
        self.assertEqual(entries_of(counted), [("b", 1), ("a", 1), ("b", 3)])
        counted[0] = ("a", 7)
        counted[1] = ("a", 9)
        self.assertEqual(keys_of(counted), ["a", "a", "b"])
        self.assertEqual(last_counts(counted), {"a": 9, "b": 5})
        self.assertEqual(entries_of(counted), [("a", 1), ("a", 8), ("b", 1)])
        counted.append(("b", 5))
        self.assertIs(is_counted(counted), False)

    def test_a_log_changed_in_place_is_read_anew(self):
        log = list(LOG)
        self.assertEqual(previous_items(log), [None, None, 0, 2])
        log[2] = "a"
        self.assertEqual(previous_items(log), [None, None, 1, 0])
        log[2] = "A"
        self.assertIs(is_log(log), False)

    def test_a_run_changed_in_place_is_read_anew(self):
        run = events("ab!")
        found = [writes_of(run), shown_by(run), waiting_after(run), hidden_in(run), earliest_run(run)]
        self.assertEqual(found, [["a", "b"], [("a", 1)], [("b", 1)], [], events("a!b")])
        run[1] = w("a")
        found = [writes_of(run), shown_by(run), waiting_after(run), hidden_in(run), earliest_run(run)]
        self.assertEqual(found, [["a", "a"], [("a", 2)], [], [("a", 1)], events("aa!")])
        self.assertIsNone(first_fault(run))
        run.append(SEND)
        self.assertEqual([is_run(run), first_fault(run)], [False, 3])
        del run[3]
        self.assertEqual([is_run(run), first_fault(run)], [True, None])


class Results(unittest.TestCase):
    def test_results_are_new_objects(self):
        for function, value in calls():
            result = function(value)
            if isinstance(result, (list, dict)):
                with self.subTest(function=function.__name__):
                    self.assertIsNot(result, value)
                    self.assertIsNot(result, function(value))

    def test_changing_a_result_has_no_effect(self):
        for function, value in calls():
            result = function(value)
            if isinstance(result, (list, dict)):
                with self.subTest(function=function.__name__):
                    before, kept = copy.deepcopy(value), copy.deepcopy(result)
                    if isinstance(result, dict):
                        result["a"] = 77
                        result["zz"] = 1
                    else:
                        result.reverse()
                        result.append(("zz", 1))
                    self.assertEqual(value, before)
                    self.assertEqual(function(value), kept)

    def test_empty_results_are_new_objects(self):
        for function in (
            keys_of, previous_items, entries_of, writes_of, shown_by, waiting_after, hidden_in, earliest_run,
        ):
            with self.subTest(function=function.__name__):
                given = []
                function(given).append("zz")
                self.assertEqual(given, [])
                self.assertEqual(function([]), [])
        last_counts([])["zz"] = 1
        self.assertEqual(last_counts([]), {})

    def test_equal_arguments_give_equal_results(self):
        for function, value in calls():
            with self.subTest(function=function.__name__):
                self.assertEqual(function(value), function(copy.deepcopy(value)))

    def test_results_are_accepted_as_arguments(self):
        run = values.long_run()
        for given in (run, earliest_run(run)):
            shown = shown_by(given)
            self.assertIs(is_counted(shown), True)
            self.assertIs(is_log(writes_of(given)), True)
            self.assertIs(is_counted(entries_of(shown)), True)
            self.assertIs(is_counted(waiting_after(given)), True)
            self.assertIs(is_counted(hidden_in(given)), True)
            self.assertEqual(len(previous_items(keys_of(shown))), len(shown))


if __name__ == "__main__":
    unittest.main()
