"""Points 55 to 60: a live source with its mirrors."""

import inspect
import random
import unittest

from conflate.cuts import contents_after
from conflate.errors import (
    ConflateError, InvalidKey, InvalidMirror, InvalidNumber, InvalidRun, NothingToSend, NothingToUndo, TooLarge,
)
from conflate.hub import Hub
from conflate.mirrors import is_consistent
from conflate.queues import shown_by, waiting_after
from tests import values
from tests.test_long import long_runs
from tests.values import SEND, events, w


class Model:
    """A hub with plain lists: each state is a list of written keys, and a queue and a log for each mirror."""

    def __init__(self):
        self.states = [([], [])]

    def now(self):
        writes, mirrors = self.states[-1]
        return list(writes), [(list(queue), list(log)) for queue, log in mirrors]

    def write_key(self, key):
        writes, mirrors = self.now()
        writes.append(key)
        for queue, _ in mirrors:
            if key not in queue:
                queue.append(key)
        self.states.append((writes, mirrors))
        return writes.count(key)

    def attach(self):
        writes, mirrors = self.now()
        if len(mirrors) == 20:
            return TooLarge
        mirrors.append((sorted(set(writes), key=writes.index), []))
        self.states.append((writes, mirrors))
        return len(mirrors) - 1

    def send(self, mirror, many, error):
        """Send so many times; where the queue is empty, return the error, if there is one, or stop."""
        writes, mirrors = self.now()
        if mirror not in range(len(mirrors)):
            return InvalidMirror
        queue, log = mirrors[mirror]
        if not queue and error is not None:
            return error
        found = [(key, writes.count(key)) for key in queue[:many]]
        if sum(len(other) for _, other in mirrors) + len(found) > 200:
            return TooLarge
        log.extend(found)
        del queue[:many]
        self.states.append((writes, mirrors))
        return found

    def undo(self):
        if len(self.states) == 1:
            return NothingToUndo
        self.states.pop()
        return None

    def check(self, test, hub):
        writes, mirrors = self.now()
        test.assertEqual([len(hub), hub.write_count, hub.mirror_count], [len(self.states) - 1, len(writes), len(mirrors)])
        test.assertEqual(hub.contents, {key: writes.count(key) for key in writes})
        test.assertEqual(list(hub.contents), sorted(set(writes)))
        for mirror, (queue, log) in enumerate(mirrors):
            test.assertEqual(hub.log_of(mirror), log)
            test.assertEqual(hub.waiting_in(mirror), [(key, writes.count(key)) for key in queue])


def outcome(call, *arguments, **more):
    """What a call returns, or the class of the error that it raises."""
    try:
        return call(*arguments, **more)
    except ConflateError as error:
        return type(error)


def a_call(chance, keys, hub, model):
    """The same call to a hub and to a model: what both return."""
    kind = chance.choice(["write"] * 6 + ["send"] * 4 + ["all"] * 2 + ["attach", "undo"])
    mirror = chance.randrange(len(model.now()[1]) + 1)
    if kind == "write":
        key = chance.choice(keys)
        return outcome(hub.write_key, key), model.write_key(key)
    if kind == "send":
        expected = model.send(mirror, 1, NothingToSend)
        return outcome(hub.send_from, mirror), expected[0] if isinstance(expected, list) else expected
    if kind == "all":
        most = chance.choice([None, None, 0, 1, 2, 3, 10 ** 30])
        expected = model.send(mirror, len(model.now()[0]) if most is None else min(most, 10 ** 6), None)
        return outcome(hub.send_all, mirror, most=most), expected
    if kind == "attach":
        return outcome(hub.attach), model.attach()
    return outcome(hub.undo), model.undo()


def hub_after(text):
    """A hub with two mirrors and these events, each for both mirrors."""
    hub = Hub()
    hub.attach()
    hub.attach()
    for event in events(text):
        if event == SEND:
            hub.send_from(0)
            hub.send_from(1)
        else:
            hub.write_key(event[1])
    return hub


class Examples(unittest.TestCase):
    def test_writing_and_attaching(self):
        hub = Hub()
        counts = [hub.write_key("b"), hub.write_key("a"), hub.write_key("b")]
        self.assertEqual([counts, hub.attach(), hub.waiting_in(0)], [[1, 1, 2], 0, [("b", 2), ("a", 1)]])

    def test_sending(self):
        hub = Hub()
        hub.attach()
        for key in "babc":
            hub.write_key(key)
        found = [hub.send_from(0), hub.send_all(0, most=1), hub.send_all(0), hub.send_all(0)]
        self.assertEqual(found, [("b", 2), [("a", 1)], [("c", 1)], []])

    def test_mirrors(self):
        hub = Hub.from_run(events("ab!b"))
        self.assertEqual([hub.log_of(0), hub.waiting_in(0)], [[("a", 1)], [("b", 2)]])

    def test_properties(self):
        hub = Hub.from_run(events("bab"))
        self.assertEqual([hub.contents, hub.mirror_count, hub.write_count], [{"a": 1, "b": 2}, 1, 3])

    def test_undo_and_copies(self):
        hub = Hub()
        begun = [hub.attach(), hub.write_key("a"), hub.write_key("a"), hub.send_all(0)]
        other = hub.duplicate()
        undone = [other.undo(), other.undo()]
        self.assertEqual([begun, undone], [[0, 1, 2, [("a", 2)]], [None, None]])
        self.assertEqual([len(hub), len(other), other.waiting_in(0), hub == other], [4, 2, [("a", 1)], False])

    def test_runs(self):
        hub = Hub.from_run(events("a!"))
        hub.undo()
        self.assertEqual([len(hub), hub.log_of(0), hub.waiting_in(0)], [2, [], [("a", 1)]])


class Ordinary(unittest.TestCase):
    def test_a_new_hub(self):
        hub = Hub()
        self.assertEqual([len(hub), hub.contents, hub.mirror_count, hub.write_count], [0, {}, 0, 0])
        self.assertIs(hub == Hub(), True)
        self.assertIs(hub != Hub(), False)

    def test_kinds(self):
        hub = hub_after("ab!a")
        found = [hub.write_key("a"), hub.attach(), hub.send_from(0), hub.send_all(1), hub.log_of(0), hub.waiting_in(2)]
        self.assertEqual([type(value) for value in found], [int, int, tuple, list, list, list])
        found = [hub.contents, hub.mirror_count, hub.write_count, hub.undo(), len(hub), hub.duplicate()]
        self.assertEqual([type(value) for value in found], [dict, int, int, type(None), int, Hub])

    def test_a_key_waits_once_and_keeps_its_place(self):
        hub = hub_after("abacb")
        self.assertEqual(hub.waiting_in(0), [("a", 2), ("b", 2), ("c", 1)])
        self.assertEqual([hub.send_from(0), hub.write_key("a")], [("a", 2), 3])
        self.assertEqual(hub.waiting_in(0), [("b", 2), ("c", 1), ("a", 3)])
        self.assertEqual(hub.waiting_in(1), [("a", 3), ("b", 2), ("c", 1)])

    def test_a_mirror_attached_later(self):
        hub = hub_after("cab!!!ba")
        self.assertEqual(hub.attach(), 2)
        # As if it had been there from the beginning: in the order of the first writes.
        self.assertEqual(hub.waiting_in(2), [("c", 1), ("a", 2), ("b", 2)])
        self.assertEqual(hub.waiting_in(0), [("b", 2), ("a", 2)])
        self.assertEqual([hub.send_all(2), hub.log_of(2)], [[("c", 1), ("a", 2), ("b", 2)]] * 2)

    def test_a_mirror_attached_before_all_writes_and_behind_them(self):
        first, last = Hub(), Hub()
        first.attach()
        for key in "badbac":
            first.write_key(key)
            last.write_key(key)
        last.attach()
        self.assertIs(first == last, True)
        self.assertEqual([len(first), first.waiting_in(0)], [7, last.waiting_in(0)])

    def test_most(self):
        hub = hub_after("abcd")
        found = [hub.send_all(0, most=0), hub.send_all(0, most=2), hub.send_all(0, most=10 ** 30), hub.send_all(0, most=5)]
        self.assertEqual(found, [[], [("a", 1), ("b", 1)], [("c", 1), ("d", 1)], []])
        self.assertEqual(hub.send_all(1, most=None), [("a", 1), ("b", 1), ("c", 1), ("d", 1)])
        self.assertEqual(len(hub), 11)

    def test_equal_hubs(self):
        self.assertIs(hub_after("ab!") == hub_after("ab!"), True)
        self.assertIs(hub_after("ab!") != hub_after("ab!"), False)
        for text in ("ab", "ba!", "ab!a", "ab!!", "aab!", "a!b", ""):
            self.assertIs(hub_after("ab!") == hub_after(text), text == "a!b")
            self.assertIs(hub_after("ab!") != hub_after(text), text != "a!b")

    def test_equal_hubs_need_equal_mirrors(self):
        one, other = hub_after("ab!"), hub_after("ab!")
        one.attach()
        self.assertIs(one == other, False)
        other.attach()
        self.assertIs(one == other, True)
        one.send_from(2)
        self.assertIs(one == other, False)
        one.undo()
        self.assertIs(one == other, True)

    def test_equal_hubs_need_the_same_order_of_writes(self):
        one, other = Hub(), Hub()
        for key in "ab":
            one.write_key(key)
        for key in "ba":
            other.write_key(key)
        self.assertIs(one == other, False)

    def test_the_calls_that_can_be_reverted_do_not_matter_for_equality(self):
        one, other = hub_after("ab!"), hub_after("ab")
        for mirror in (0, 1):
            self.assertEqual(other.send_all(mirror, most=1), [("a", 1)])
        other.send_all(0, most=0)
        self.assertEqual([len(one), len(other)], [6, 7])
        self.assertIs(one == other, True)

    def test_no_other_value_is_equal(self):
        for hub in (Hub(), hub_after("ab!")):
            for value in values.plain_values() + [0, "", [], (), {}, [hub], Hub]:
                self.assertIs(hub == value, False)
                self.assertIs(hub != value, True)

    def test_changing_results_has_no_effect(self):
        hub = hub_after("ab!a")
        for found in (hub.log_of(0), hub.waiting_in(0), hub.send_all(1)):
            found.append(("z", 1))
        hub.contents["z"] = 1
        hub.contents["a"] = 7
        self.assertEqual([hub.log_of(0), hub.waiting_in(0)], [[("a", 1)], [("b", 1), ("a", 2)]])
        self.assertEqual([hub.log_of(1), hub.waiting_in(1)], [[("a", 1), ("b", 1), ("a", 2)], []])
        self.assertEqual(hub.contents, {"a": 2, "b": 1})

    def test_a_run_is_not_kept(self):
        run = events("ab!")
        hub = Hub.from_run(run)
        run.append(SEND)
        self.assertEqual(hub.log_of(0), [("a", 1)])
        self.assertEqual(run, events("ab!!"))


class Undo(unittest.TestCase):
    def test_each_kind_of_call(self):
        hub = Hub()
        for call, more in [
            (hub.write_key, ["b"]), (hub.attach, []), (hub.write_key, ["a"]), (hub.write_key, ["b"]), (hub.attach, []),
            (hub.send_from, [0]), (hub.write_key, ["b"]), (hub.send_all, [1]), (hub.send_all, [1]), (hub.write_key, ["c"]),
        ]:
            before = hub.duplicate()
            call(*more)
            after = hub.duplicate()
            self.assertIsNone(hub.undo())
            self.assertIs(hub == before, True)
            self.assertEqual([len(hub), hub.contents], [len(before), before.contents])
            call(*more)
            self.assertIs(hub == after, True)
        self.assertEqual(len(hub), 10)

    def test_behind_all_calls(self):
        hub = hub_after("ab!ab!!cab!")
        for left in range(len(hub) - 1, -1, -1):
            hub.undo()
            self.assertEqual(len(hub), left)
        self.assertIs(hub == Hub(), True)
        for _ in range(2):
            with self.assertRaises(NothingToUndo) as caught:
                hub.undo()
            self.assertIs(type(caught.exception), NothingToUndo)
        self.assertEqual([hub.attach(), hub.write_key("z")], [0, 1])

    def test_behind_a_failed_call(self):
        hub = hub_after("ab!")
        hub.send_from(0)
        for call, more in [
            (hub.write_key, ["A"]), (hub.send_from, [0]), (hub.send_from, [2]), (hub.send_all, [2]), (hub.send_all, [None]),
        ]:
            self.assertTrue(issubclass(outcome(call, *more), ConflateError))
        self.assertIs(outcome(hub.send_all, 1, most=-1), InvalidNumber)
        self.assertEqual(len(hub), 7)
        hub.undo()
        self.assertEqual([hub.log_of(0), hub.waiting_in(0)], [[("a", 1)], [("b", 1)]])

    def test_behind_a_send_that_showed_nothing(self):
        hub = hub_after("a!")
        self.assertEqual([hub.send_all(0), hub.send_all(1, most=0), len(hub)], [[], [], 7])
        hub.undo()
        hub.undo()
        self.assertEqual([len(hub), hub.log_of(1)], [5, [("a", 1)]])
        hub.undo()
        self.assertEqual([hub.log_of(0), hub.log_of(1), hub.waiting_in(1)], [[("a", 1)], [], [("a", 1)]])

    def test_a_write_while_the_key_waits(self):
        hub = hub_after("aab")
        hub.write_key("a")
        hub.undo()
        self.assertEqual(hub.waiting_in(0), [("a", 2), ("b", 1)])
        hub.undo()
        self.assertEqual([hub.waiting_in(0), hub.contents], [[("a", 2)], {"a": 2}])

    def test_a_write_that_waits_in_one_queue_only(self):
        hub = hub_after("ab")
        hub.send_from(1)
        hub.write_key("a")
        self.assertEqual([hub.waiting_in(0), hub.waiting_in(1)], [[("a", 2), ("b", 1)], [("b", 1), ("a", 2)]])
        hub.undo()
        self.assertEqual([hub.waiting_in(0), hub.waiting_in(1)], [[("a", 1), ("b", 1)], [("b", 1)]])
        hub.undo()
        self.assertEqual(hub.waiting_in(1), [("a", 1), ("b", 1)])

    def test_a_key_written_for_the_first_time(self):
        hub = hub_after("")
        for key in "cab":
            hub.write_key(key)
        hub.undo()
        hub.undo()
        for key in "ba":
            hub.write_key(key)
        self.assertEqual([hub.attach(), hub.waiting_in(2), list(hub.contents)], [2, [("c", 1), ("b", 1), ("a", 1)], ["a", "b", "c"]])

    def test_duplicates_are_independent(self):
        hub = hub_after("ab!ab")
        other = hub.duplicate()
        self.assertIs(hub == other, True)
        self.assertIsNot(hub, other)
        self.assertEqual(len(other), len(hub))
        other.write_key("c")
        other.send_all(0)
        other.attach()
        self.assertEqual([len(hub), hub.write_count, hub.mirror_count, hub.log_of(0)], [8, 4, 2, [("a", 1)]])
        hub.undo()
        hub.undo()
        self.assertEqual([other.contents, other.log_of(0)], [{"a": 2, "b": 2, "c": 1}, [("a", 1), ("b", 2), ("a", 2), ("c", 1)]])
        for _ in range(11):
            other.undo()
        self.assertIs(other == Hub(), True)
        self.assertEqual(len(hub), 6)


class AgainstTheModel(unittest.TestCase):
    def test_random_calls(self):
        for seed in range(40):
            chance = random.Random(seed)
            keys = "abcdefgh"[:chance.randrange(1, 9)]
            hub, model = Hub(), Model()
            for _ in range(chance.choice([20, 100, 300])):
                found, expected = a_call(chance, keys, hub, model)
                self.assertEqual(found, expected)
                model.check(self, hub)
            while len(hub):
                self.assertEqual(outcome(hub.undo), model.undo())
                model.check(self, hub)

    def test_random_calls_of_duplicates(self):
        for seed in range(20):
            chance = random.Random(100 + seed)
            pairs = [(Hub(), Model())]
            for _ in range(120):
                hub, model = chance.choice(pairs)
                found, expected = a_call(chance, "abc", hub, model)
                self.assertEqual(found, expected)
                if chance.randrange(10) == 0 and len(pairs) < 6:
                    twin = Model()
                    twin.states = list(model.states)
                    pairs.append((hub.duplicate(), twin))
            for hub, model in pairs:
                model.check(self, hub)
                for other, its_model in pairs:
                    self.assertIs(hub == other, model.now() == its_model.now())
            for hub, model in pairs:
                while len(hub):
                    hub.undo()
                    model.undo()
                    model.check(self, hub)

    def test_logs_of_all_mirrors_go_together(self):
        for seed in range(10):
            chance = random.Random(200 + seed)
            hub, model = Hub(), Model()
            for _ in range(200):
                a_call(chance, "abcd", hub, model)
            logs = [hub.log_of(mirror) for mirror in range(hub.mirror_count)]
            if logs:
                self.assertIs(is_consistent(logs), True)


class Runs(unittest.TestCase):
    def test_small_runs(self):
        for run, _, shown, waiting in values.small_runs()[::3]:
            hub = Hub.from_run(run)
            self.assertEqual([hub.log_of(0), hub.waiting_in(0), len(hub)], [shown, waiting, len(run) + 1])
            self.assertEqual([hub.mirror_count, hub.write_count], [1, len(run) - len(shown)])

    def test_long_runs(self):
        for run in long_runs():
            shown = shown_by(run)
            if len(shown) > 200:
                self.assertIs(outcome(Hub.from_run, run), TooLarge)
                continue
            hub = Hub.from_run(run)
            self.assertEqual([hub.log_of(0), hub.waiting_in(0)], [shown, waiting_after(run)])
            self.assertEqual(hub.contents, contents_after([(key, count) for key, count in all_writes(run)], hub.write_count))
            self.assertEqual(len(hub), 1001)

    def test_calls_of_a_run_can_be_reverted(self):
        run = events("ab!a!!b!")
        hub = Hub.from_run(run)
        for left in range(len(run), -1, -1):
            self.assertIs(hub == Hub.from_run(run[:left]), True)
            self.assertEqual(len(hub), left + 1)
            hub.undo()
        self.assertIs(hub == Hub(), True)

    def test_two_hundred_items_and_one_more(self):
        self.assertEqual(len(Hub.from_run([w("a"), SEND] * 200).log_of(0)), 200)
        with self.assertRaises(TooLarge) as caught:
            Hub.from_run([w("a"), SEND] * 201)
        self.assertEqual(caught.exception.limit, 200)
        self.assertIs(outcome(Hub.from_run, [w("a"), SEND] * 201 + [SEND]), InvalidRun)

    def test_more_than_two_hundred_waiting_keys(self):
        run = [w(f"k{number}") for number in range(500)] + [SEND] * 200
        hub = Hub.from_run(run)
        self.assertEqual([len(hub.log_of(0)), len(hub.waiting_in(0)), len(hub)], [200, 300, 701])
        self.assertEqual(len(Hub.from_run(run[:500]).waiting_in(0)), 500)

    def test_wrong_runs(self):
        for value in values.wrong_runs():
            with self.assertRaises(InvalidRun) as caught:
                Hub.from_run(value)
            self.assertIs(type(caught.exception), InvalidRun)


def all_writes(run):
    keys = [event[1] for event in run if event != SEND]
    return [(key, keys[:at + 1].count(key)) for at, key in enumerate(keys)]


class Limits(unittest.TestCase):
    def check_too_large(self, limit, call, *arguments, **more):
        with self.assertRaises(TooLarge) as caught:
            call(*arguments, **more)
        self.assertIs(type(caught.exception), TooLarge)
        self.assertEqual(caught.exception.limit, limit)

    def test_twenty_mirrors_and_one_more(self):
        hub = Hub()
        hub.write_key("a")
        self.assertEqual([hub.attach() for _ in range(20)], list(range(20)))
        self.check_too_large(20, hub.attach)
        self.assertEqual([len(hub), hub.mirror_count, hub.waiting_in(19)], [21, 20, [("a", 1)]])
        hub.undo()
        self.assertEqual([hub.mirror_count, hub.attach()], [19, 19])
        self.check_too_large(20, hub.attach)

    def full_hub(self, left):
        """A hub of three mirrors that may still show so many items; 8 keys wait for each mirror."""
        hub = Hub()
        keys = [f"k{number}" for number in range(100)]
        for key in keys:
            hub.write_key(key)
        for _ in range(3):
            hub.attach()
        self.assertEqual(len(hub.send_all(0) + hub.send_all(1, most=100 - left)), 200 - left)
        for key in keys[:8]:
            hub.write_key(key)
        return hub

    def test_two_hundred_items_and_one_more(self):
        hub = self.full_hub(1)
        self.assertEqual(hub.send_from(2), ("k0", 2))
        before = hub.duplicate()
        for call, more in [(hub.send_from, [0]), (hub.send_from, [2]), (hub.send_all, [0]), (hub.send_all, [2])]:
            self.check_too_large(200, call, *more)
        self.check_too_large(200, hub.send_all, 2, most=1)
        self.assertIs(hub == before, True)
        self.assertEqual(len(hub), len(before))
        self.assertEqual(hub.send_all(2, most=0), [])
        hub.undo()
        hub.undo()
        self.assertEqual(hub.send_from(2), ("k0", 2))

    def test_all_sends_or_none(self):
        hub = self.full_hub(8)
        self.check_too_large(200, hub.send_all, 2)
        self.check_too_large(200, hub.send_all, 2, most=9)
        self.assertEqual([hub.log_of(2), len(hub.waiting_in(2))], [[], 100])
        self.assertEqual(len(hub.send_all(2, most=8)), 8)
        self.check_too_large(200, hub.send_all, 2, most=1)
        hub.undo()
        self.assertEqual(len(hub.send_all(0)), 8)

    def test_no_waiting_key_comes_before_too_many_items(self):
        hub = Hub.from_run([w("a"), SEND] * 200)
        self.assertIs(outcome(hub.send_from, 0), NothingToSend)
        self.assertEqual(hub.send_all(0), [])
        hub.write_key("a")
        self.check_too_large(200, hub.send_from, 0)
        self.check_too_large(200, hub.send_all, 0)
        self.assertIs(outcome(hub.send_all, 0, most=None), TooLarge)


class Wrong(unittest.TestCase):
    def check(self, hub, error, call, *arguments, **more):
        before = hub.duplicate()
        with self.assertRaises(error) as caught:
            call(*arguments, **more)
        self.assertIs(type(caught.exception), error)
        self.assertIs(hub == before, True)
        self.assertEqual(len(hub), len(before))

    def test_keys(self):
        hub = hub_after("ab!")
        for value in values.wrong_keys():
            self.check(hub, InvalidKey, hub.write_key, value)

    def test_mirrors(self):
        for hub, mirrors in [(Hub(), 0), (hub_after("ab!"), 2)]:
            for value in values.wrong_numbers(0, mirrors - 1):
                for call in (hub.send_from, hub.send_all, hub.log_of, hub.waiting_in):
                    self.check(hub, InvalidMirror, call, value)
                self.check(hub, InvalidMirror, hub.send_all, value, most=-1)

    def test_numbers_of_sends(self):
        for hub in (hub_after("ab!"), hub_after("")):
            for value in values.wrong_numbers(0, 10 ** 30):
                if value is not None and (not isinstance(value, int) or isinstance(value, bool) or value < 0):
                    self.check(hub, InvalidNumber, hub.send_all, 0, most=value)

    def test_the_first_error_is_raised(self):
        hub = Hub.from_run([w("a"), SEND] * 200)
        hub.write_key("b")
        self.check(hub, InvalidMirror, hub.send_from, 1)
        self.check(hub, InvalidMirror, hub.send_all, 1, most="1")
        self.check(hub, InvalidNumber, hub.send_all, 0, most=-1)
        self.check(hub, InvalidNumber, hub.send_all, 0, most=True)

    def test_nothing_to_send(self):
        for hub in (hub_after(""), hub_after("a!")):
            for mirror in (0, 1):
                self.check(hub, NothingToSend, hub.send_from, mirror)
                self.assertEqual(hub.send_all(mirror), [])

    def test_nothing_to_undo(self):
        hub = Hub()
        self.check(hub, NothingToUndo, hub.undo)


class Interface(unittest.TestCase):
    def test_methods_stand_in_the_class(self):
        for name, parameters in [
            ("write_key", ["self", "key"]), ("attach", ["self"]), ("send_from", ["self", "mirror"]),
            ("send_all", ["self", "mirror", "most"]), ("log_of", ["self", "mirror"]),
            ("waiting_in", ["self", "mirror"]), ("undo", ["self"]), ("duplicate", ["self"]),
            ("__len__", ["self"]), ("__eq__", ["self", "other"]),
        ]:
            self.assertEqual(list(inspect.signature(vars(Hub)[name]).parameters), parameters)
        most = inspect.signature(Hub.send_all).parameters["most"]
        self.assertEqual([most.kind, most.default], [inspect.Parameter.KEYWORD_ONLY, None])
        for name in ("contents", "mirror_count", "write_count"):
            self.assertIsInstance(vars(Hub)[name], property)
        self.assertIsInstance(vars(Hub)["from_run"], classmethod)
        self.assertEqual([Hub.__module__, list(inspect.signature(Hub).parameters)], ["conflate.hub", []])


if __name__ == "__main__":
    unittest.main()
