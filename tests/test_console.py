"""Points 63 to 65: the console."""

import inspect
import random
import unittest

from conflate.chains import sure_depth
from conflate.console import Console
from conflate.cuts import sure_moments
from conflate.errors import (
    ConflateError, InvalidCommand, InvalidItem, InvalidKey, InvalidLogs, InvalidMirror, InvalidWrite, NothingToSend,
    NothingToUndo, TooLarge,
)
from conflate.relations import is_before
from tests import values
from tests.reference import surely_before
from tests.test_hub import Model

GREAT = 10 ** 30


def answers(rows):
    console = Console()
    return [console.execute(row) for row in rows]


def console_after(*rows):
    console = Console()
    for row in rows:
        console.execute(row)
    return console


def outcome(console, row):
    """The answer to a row, or the class of the error that it raises."""
    try:
        return console.execute(row)
    except ConflateError as error:
        return type(error)


class Examples(unittest.TestCase):
    def test_console(self):
        rows = ["attach", "write a b", "send 0", "write a b", "drain 0", "sure 0 0 2", "depth 0 0 2", "moments 0"]
        self.assertEqual(answers(rows), ["0", "a#1 b#1", "a#1", "a#2 b#2", "b#2 a#2", "yes", "any", "0 1 3"])


class RowsThatChange(unittest.TestCase):
    def test_write(self):
        found = answers(["write b", "write a", "write b b price_2 a b", "contents"])
        self.assertEqual(found, ["b#1", "a#1", "b#2 b#3 price_2#1 a#2 b#4", "a#2 b#4 price_2#1"])

    def test_attach(self):
        found = answers(["attach", "write b a b", "attach", "attach", "waiting 0", "waiting 2"])
        self.assertEqual(found, ["0", "b#1 a#1 b#2", "1", "2", "b#2 a#1", "b#2 a#1"])

    def test_send_and_drain(self):
        rows = ["attach", "attach", "write a b c a", "send 0", "drain 0", "drain 1", "write c", "send 1", "log 0", "log 1"]
        self.assertEqual(answers(rows)[3:], ["a#2", "b#1 c#1", "a#2 b#1 c#1", "c#2", "c#2", "a#2 b#1 c#1", "a#2 b#1 c#1 c#2"])

    def test_draining_an_empty_queue(self):
        console = console_after("attach", "write a", "drain 0")
        self.assertEqual([console.execute("drain 0"), console.execute("drain 0"), console.execute("waiting 0")], ["none"] * 3)
        # These rows changed nothing, so the one before them is reverted.
        self.assertEqual([console.execute("undo"), console.execute("waiting 0"), console.execute("log 0")], ["ok", "a#1", "none"])

    def test_undo(self):
        console = console_after("attach", "write a b", "write c a b a", "drain 0", "write c", "attach", "send 1")
        for row, answer in [
            ("log 1", "a#3"), ("undo", "ok"), ("log 1", "none"), ("waiting 1", "a#3 b#2 c#2"), ("undo", "ok"),
            ("undo", "ok"), ("contents", "a#3 b#2 c#1"), ("log 0", "a#3 b#2 c#1"), ("undo", "ok"), ("waiting 0", "a#3 b#2 c#1"),
            ("log 0", "none"), ("undo", "ok"), ("contents", "a#1 b#1"), ("waiting 0", "a#1 b#1"), ("undo", "ok"),
            ("contents", "none"), ("waiting 0", "none"), ("undo", "ok"),
        ]:
            self.assertEqual(console.execute(row), answer)
        for _ in range(2):
            self.assertIs(outcome(console, "undo"), NothingToUndo)
        self.assertIs(outcome(console, "log 0"), InvalidMirror)
        self.assertEqual(console.execute("attach"), "0")

    def test_undo_behind_failed_rows_and_questions(self):
        console = console_after("attach", "write a b", "send 0")
        for row in ["write a B", "send 1", "sure 0 0 0", "log 0", "contents", "moments 0", "waiting 0", "before a 1 b 1", "", "undo 1"]:
            outcome(console, row)
        self.assertEqual([console.execute("undo"), console.execute("waiting 0")], ["ok", "a#1 b#1"])
        self.assertEqual([console.execute("undo"), console.execute("contents")], ["ok", "none"])

    def test_two_consoles_are_independent(self):
        one, other = console_after("attach", "write a"), console_after("attach")
        self.assertEqual([one.execute("contents"), other.execute("contents")], ["a#1", "none"])


class RowsThatAnswer(unittest.TestCase):
    def test_nothing_to_show(self):
        self.assertEqual(answers(["contents", "attach", "log 0", "waiting 0", "drain 0", "moments 0"]), ["none", "0", "none", "none", "none", "0"])

    def test_contents_ascend(self):
        self.assertEqual(answers(["write k2 b k10 b a", "contents"])[1], "a#1 b#2 k10#1 k2#1")

    def test_sure_and_depth(self):
        console = console_after("attach", "write b a", "drain 0", "write a", "drain 0", "write c", "drain 0")
        self.assertEqual(console.execute("log 0"), "b#1 a#1 a#2 c#1")
        for row, answer in [
            ("sure 0 0 3", "yes"), ("sure 0 2 3", "no"), ("sure 0 3 0", "no"), ("sure 0 1 2", "yes"), ("sure 0 0 1", "no"),
            ("depth 0 0 3", "1"), ("depth 0 0 1", "0"), ("depth 0 1 2", "any"), ("depth 0 2 3", "0"),
        ]:
            self.assertEqual(console.execute(row), answer)

    def test_before(self):
        console = console_after("attach", "attach", "write a", "send 1", "write b", "send 1", "write a", "drain 0", "drain 1")
        self.assertEqual([console.execute("log 0"), console.execute("log 1")], ["a#2 b#1", "a#1 b#1 a#2"])
        for row, answer in [
            ("before a 1 b 1", "yes"), ("before b 1 a 2", "yes"), ("before a 2 b 1", "no"), ("before a 1 a 1", "no"),
            ("before a 1 a 2", "yes"),
        ]:
            self.assertEqual(console.execute(row), answer)
        self.assertEqual([console.execute("moments 0"), console.execute("moments 1")], ["0 2", "0 1 2 3"])

    def test_writes_that_exist_are_those_that_the_logs_show(self):
        console = console_after("attach", "write a b a", "send 0")
        self.assertEqual(console.execute("before a 1 a 2"), "yes")
        for row in ["before a 1 b 1", "before a 3 a 1", "before a 1 a 3", "before a 0 a 1", f"before a 1 a {GREAT}"]:
            self.assertIs(outcome(console, row), InvalidWrite)

    def test_answers_are_strings(self):
        console = Console()
        for row in ["attach", "write a a b", "send 0", "drain 0", "drain 0", "log 0", "waiting 0", "contents", "sure 0 0 1",
                    "depth 0 0 1", "before a 1 a 2", "moments 0", "undo"]:
            self.assertIs(type(console.execute(row)), str)


class Commands(unittest.TestCase):
    def check(self, console, error, row):
        with self.assertRaises(error) as caught:
            console.execute(row)
        self.assertIs(type(caught.exception), error)

    def full(self):
        return console_after("attach", "write a b c", "drain 0", "write a b", "drain 0")

    def test_values_that_are_no_strings(self):
        for value in values.plain_values() + [0, 1, ["attach"], ("attach",), b"attach", values.nested_in_itself()]:
            self.check(Console(), InvalidCommand, value)

    def test_forms(self):
        wrong = [
            "", " ", "\n", "Attach", "ATTACH", "attach 0", "attach a", "undo 1", "undo undo", "contents 0", "contents a", "write",
            "send", "send 0 0", "drain", "drain 0 0", "log", "log 0 0", "waiting", "waiting 0 1", "moments", "moments 0 0",
            "sure", "sure 0", "sure 0 0", "sure 0 0 1 2", "depth 0 0", "depth 0 0 1 2", "before", "before a 1", "before a 1 b",
            "before a 1 b 1 c", "before a 1 b 1 c 1", "sends 0", "writ a", "help", "0", "a", "+a", "!", "before a b 1 1",
            "send a", "send 0a", "send -1", "send +1", "send 00", "send 01", "send 0x0", "send 1.0", "send 1_0", "send \u0661",
            "log a", "waiting -0", "moments 00", "drain 1e1", "sure a 0 1", "sure 0 a 1", "sure 0 0 a", "sure 0 00 1",
            "depth 0 0 01", "depth a 0 1", "before a 01 b 1", "before a 1 b 01", "before a b b 1", "before a 1 b -1", "before 1 a 1 b",
            "send \u00b2",
        ]
        for row in wrong:
            with self.subTest(row=row):
                self.check(self.full(), InvalidCommand, row)

    def test_spaces_and_newlines(self):
        right = ["attach", "write a b", "send 0", "drain 0", "undo", "log 0", "waiting 0", "contents", "sure 0 0 1",
                 "depth 0 0 1", "before a 1 b 1", "moments 0"]
        for row in right:
            console = self.full()
            wrong = [" " + row, row + " ", row + "\n", "\n" + row, row + "  ", row + " \n", row.upper()]
            wrong += [row.replace(" ", sign, 1) for sign in ("  ", "\n", " \n", "\n ", "\t") if " " in row]
            wrong += [" ".join(row.rsplit(" ", 1)).replace(" ", "  ")] * (" " in row)
            for value in wrong:
                with self.subTest(row=value):
                    self.check(console, InvalidCommand, value)
            self.assertEqual(console.execute("contents"), "a#2 b#2 c#1")

    def test_newlines_and_spaces_among_keys(self):
        console = self.full()
        for row in ["write a\n", "write a\nb", "write a b\n", "write A\n", "write a  b", "write a b ", "write  a", "write ", "write \n",
                    "write a \n b", "before a\n 1 b 1", "before a 1 b\n 1", "before \n 1 b 1", "before a 1  b 1", "before  1 b 1",
                    "before a 1 b 1\n", "before A\n 1 b 1"]:
            with self.subTest(row=row):
                self.check(console, InvalidCommand, row)
        self.assertEqual(console.execute("contents"), "a#2 b#2 c#1")

    def test_numbers_of_many_digits(self):
        console = self.full()
        for number in ("1" + "0" * 30, "9" * 31):
            for row, error in [
                (f"send {number}", InvalidMirror), (f"drain {number}", InvalidMirror), (f"log {number}", InvalidMirror),
                (f"waiting {number}", InvalidMirror), (f"moments {number}", InvalidMirror), (f"sure {number} 0 1", InvalidMirror),
                (f"sure 0 {number} 1", InvalidItem), (f"depth 0 0 {number}", InvalidItem), (f"before a {number} b 1", InvalidWrite),
                (f"before a 1 b {number}", InvalidWrite),
            ]:
                self.check(console, error, row)
        for number in ("1" + "0" * 31, "9" * 32, "1" * 33, "9" * 3000, "0" * 31, "0" * 32, "0" + "1" * 30):
            for form in ["send {}", "drain {}", "log {}", "waiting {}", "moments {}", "sure {} 0 1", "sure 0 {} 1", "sure 0 0 {}",
                         "depth {} 0 1", "depth 0 {} 1", "depth 0 0 {}", "before a {} b 1", "before a 1 b {}"]:
                self.check(console, InvalidCommand, form.format(number))

    def test_the_form_comes_first(self):
        console = Console()
        for row in ["send", "sure 7 0", "before A 1 b", "before A 01 b 1", "undo 1", "log 07", "sure 9 x 1"]:
            self.check(console, InvalidCommand, row)

    def test_keys(self):
        console = self.full()
        for wrong in ["A", "2a", "_a", "a-b", "a#1", "a" * 13, "!", "+a", "0", "12", "{a}", "a.b", "\u00e9"]:
            for row in (f"write {wrong}", f"write a {wrong}", f"write {wrong} a", f"write a b {wrong} c {wrong}"):
                self.check(console, InvalidKey, row)
            for row in (f"before {wrong} 1 b 1", f"before a 1 {wrong} 1", f"before {wrong} 1 {wrong} 1"):
                self.check(console, InvalidWrite, row)
        self.assertEqual(console.execute("contents"), "a#2 b#2 c#1")
        self.assertEqual([console.execute("undo"), console.execute("waiting 0")], ["ok", "a#2 b#2"])

    def test_mirrors(self):
        for console, numbers in [(Console(), [0, 1]), (self.full(), [1, 2, 20])]:
            for number in numbers:
                for form in ["send {}", "drain {}", "log {}", "waiting {}", "moments {}", "sure {} 0 0", "sure {} 9 9", "depth {} 9 0"]:
                    self.check(console, InvalidMirror, form.format(number))

    def test_nothing_to_send(self):
        console = console_after("attach")
        self.check(console, NothingToSend, "send 0")
        console.execute("write a")
        console.execute("send 0")
        self.check(console, NothingToSend, "send 0")
        self.assertEqual([console.execute("undo"), console.execute("undo"), console.execute("undo")], ["ok"] * 3)
        self.check(console, NothingToUndo, "undo")

    def test_items(self):
        console = self.full()
        self.assertEqual(console.execute("log 0"), "a#1 b#1 c#1 a#2 b#2")
        for row in ["sure 0 0 0", "sure 0 5 0", "sure 0 0 5", "depth 0 0 0", "depth 0 3 1", "depth 0 0 5", "depth 0 5 6"]:
            self.check(console, InvalidItem, row)
        self.check(console_after("attach"), InvalidItem, "sure 0 0 1")

    def test_before_without_mirrors_or_writes(self):
        for row in ["before a 1 b 1", "before A 1 b 1", "before a 0 b 0"]:
            self.check(Console(), InvalidLogs, row)
            self.check(console_after("write a b"), InvalidLogs, row)
            self.check(console_after("attach", "write a b"), InvalidWrite, row)

    def test_twenty_mirrors_and_one_more(self):
        console = console_after(*["attach"] * 20)
        self.check(console, TooLarge, "attach")
        self.assertEqual([console.execute("undo"), outcome(console, "log 19"), console.execute("attach")], ["ok", InvalidMirror, "19"])

    def test_two_hundred_items_and_one_more(self):
        keys = " ".join([f"k{number}" for number in range(100)])
        console = console_after("attach", "attach", "attach", f"write {keys}", "drain 0", "send 1")
        self.assertEqual(len(console.execute("drain 1").split(" ")), 99)
        for row in ["send 2", "drain 2"]:
            self.check(console, TooLarge, row)
        self.assertEqual([console.execute("drain 1"), console.execute("undo"), console.execute("log 1")], ["none", "ok", "k0#1"])
        self.check(console, TooLarge, "drain 2")
        self.assertEqual(console.execute("send 2"), "k0#1")


class AgainstTheModel(unittest.TestCase):
    def test_random_rows(self):
        for seed in range(25):
            chance = random.Random(seed)
            console, model = Console(), Rows()
            for _ in range(100):
                row = self.a_row(chance)
                self.assertEqual(outcome(console, row), model.execute(row), row)

    def a_row(self, chance):
        first = chance.choice(["write"] * 5 + ["send", "drain"] * 3 + ["attach", "undo", "log", "waiting", "contents"] * 2
                              + ["sure", "depth", "before", "moments"])
        numbers = [str(chance.randrange(most)) for most in (3, 8, 8)]
        keys = [chance.choice("abcd" + "A" * (chance.randrange(9) == 0)) for _ in range(chance.randrange(1, 5))]
        if first == "write":
            return " ".join([first] + keys)
        if first in ("attach", "undo", "contents"):
            return first
        if first in ("sure", "depth"):
            return " ".join([first] + numbers)
        if first == "before":
            return f"before {keys[0]} {numbers[0]} {keys[-1]} {numbers[1]}"
        return f"{first} {numbers[0]}"


class Rows:
    """A console over the plain model of a hub."""

    def __init__(self):
        self.model = Model()
        self.calls = []

    def shown(self, found, changed):
        if isinstance(found, type):
            return found
        if changed:
            self.calls.append(changed)
        return " ".join(f"{key}#{count}" for key, count in found) or "none"

    def execute(self, row):
        first, *words = row.split(" ")
        numbers = [int(word) for word in words if word.isdigit()]
        writes, mirrors = self.model.now()
        if first == "write":
            if "A" in words:
                return InvalidKey
            return self.shown([(key, self.model.write_key(key)) for key in words], len(words))
        if first == "attach":
            self.calls.append(1)
            return str(self.model.attach())
        if first == "undo":
            if not self.calls:
                return NothingToUndo
            for _ in range(self.calls.pop()):
                self.model.undo()
            return "ok"
        if first == "contents":
            return self.shown([(key, writes.count(key)) for key in sorted(set(writes))], 0)
        logs = [log for _, log in mirrors]
        if first == "before":
            return self.before(logs, (words[0], numbers[0]), (words[2], numbers[1]))
        if numbers[0] >= len(mirrors):
            return InvalidMirror
        return self.of_mirror(first, numbers, writes, *mirrors[numbers[0]], logs)

    def before(self, logs, write, other):
        if not logs:
            return InvalidLogs
        shown = [item for log in logs for item in log]
        for key, count in (write, other):
            if count == 0 or count > max([most for same, most in shown if same == key], default=0):
                return InvalidWrite
        return "yes" if is_before(logs, write, other) else "no"

    def of_mirror(self, first, numbers, writes, queue, log, logs):
        if first == "send":
            return self.shown(self.model.send(numbers[0], 1, NothingToSend), 1)
        if first == "drain":
            if not queue:
                return "none"
            return self.shown(self.model.send(numbers[0], len(queue), None), 1)
        if first == "log":
            return self.shown(log, 0)
        if first == "waiting":
            return self.shown([(key, writes.count(key)) for key in queue], 0)
        if first == "moments":
            return " ".join([str(moment) for moment in sure_moments(logs, numbers[0])])
        keys = [key for key, _ in log]
        one, other = numbers[1:]
        if max(one, other) >= len(keys) or one == other or (first == "depth" and other < one):
            return InvalidItem
        if first == "sure":
            return "yes" if surely_before(keys, one, other) else "no"
        depth = sure_depth(keys, one, other)
        return "any" if depth is None else str(depth)


class Interface(unittest.TestCase):
    def test_the_class(self):
        self.assertEqual([Console.__module__, list(inspect.signature(Console).parameters)], ["conflate.console", []])
        self.assertEqual(list(inspect.signature(vars(Console)["execute"]).parameters), ["self", "row"])


if __name__ == "__main__":
    unittest.main()
