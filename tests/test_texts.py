"""Points 61 and 62: texts of logs, counted logs and runs."""

import itertools
import unittest

from conflate.errors import InvalidLog, InvalidRun, InvalidText
from conflate.texts import format_counted, format_log, format_run, parse_counted, parse_log, parse_run
from tests import values
from tests.test_long import long_runs
from tests.values import SEND, events, w

PARSERS = (parse_log, parse_counted, parse_run)
# Signs of which short texts of all kinds are made.
SIGNS = "a+#!12 "
GREAT = 10 ** 30


def is_key_by_hand(word):
    return 1 <= len(word) <= 12 and word[0] in values.LOWER and all(sign in values.REST for sign in word)


def log_by_hand(text):
    """What parse_log shall return, or the position of its error."""
    words = text.split(" ") if text else []
    wrong = [at for at, word in enumerate(words) if not is_key_by_hand(word)]
    return wrong[0] if wrong else words


def counted_by_hand(text):
    found = []
    for at, word in enumerate(text.split(" ") if text else []):
        parts = word.split("#")
        if len(parts) != 2 or not is_key_by_hand(parts[0]):
            return at
        digits = parts[1]
        if not digits or digits[0] == "0" or not all(sign in "0123456789" for sign in digits):
            return at
        if any(key == parts[0] and count >= int(digits) for key, count in found):
            return at
        found.append((parts[0], int(digits)))
    return found


def run_by_hand(text):
    found = []
    for at, word in enumerate(text.split(" ") if text else []):
        if word == "!":
            found.append(SEND)
        elif word[:1] == "+" and is_key_by_hand(word[1:]):
            found.append(w(word[1:]))
        else:
            return at
        if values.played_by_the_book(found)[3] is not None:
            return at
    return found


def parsed(parser, text):
    """What a parser returns, or the position of its error."""
    try:
        return parser(text)
    except InvalidText as error:
        return error.position


class Examples(unittest.TestCase):
    def test_format(self):
        self.assertEqual(format_log(["a", "b", "a"]), "a b a")
        found = [format_counted([("a", 1), ("b", 20)]), format_run(events("ab!")), format_log([])]
        self.assertEqual(found, ["a#1 b#20", "+a +b !", ""])

    def test_parse(self):
        self.assertEqual(parse_run("+a +a !"), events("aa!"))
        for parser, text in [(parse_counted, "a#2 b#1 a#2"), (parse_run, "+a ! !")]:
            with self.assertRaises(InvalidText) as caught:
                parser(text)
            self.assertIs(type(caught.exception), InvalidText)
            self.assertEqual(caught.exception.position, 2)


class Ordinary(unittest.TestCase):
    def test_logs(self):
        for log, text in [
            ([], ""), (["a"], "a"), (["price_2", "z", "price_2"], "price_2 z price_2"), (["a" * 12] * 3, " ".join(["a" * 12] * 3)),
        ]:
            self.assertEqual([format_log(log), parse_log(text)], [text, log])

    def test_counted_logs(self):
        for counted, text in [
            ([], ""), ([("a", 1)], "a#1"), ([("a_2", 10), ("b", 900), ("a_2", 11)], "a_2#10 b#900 a_2#11"),
            ([("a", GREAT)], "a#1" + "0" * 30), ([("a", 10 ** 29 + 7), ("a", GREAT)], "a#1" + "0" * 28 + "7 a#1" + "0" * 30),
        ]:
            self.assertEqual([format_counted(counted), parse_counted(text)], [text, counted])

    def test_runs(self):
        for run, text in [
            ([], ""), (events("a"), "+a"), (events("a!ba!!"), "+a ! +b +a ! !"), ([w("send"), SEND], "+send !"),
        ]:
            self.assertEqual([format_run(run), parse_run(text)], [text, run])

    def test_kinds(self):
        self.assertEqual([type(format_log(["a"])), type(parse_log("a")), type(parse_log("a")[0])], [str, list, str])
        found = parse_counted("a#1")
        self.assertEqual([type(found), type(found[0]), type(found[0][0]), type(found[0][1])], [list, tuple, str, int])
        self.assertEqual([type(part) for part in parse_run("+a !")], [tuple, tuple])

    def test_results_are_new_objects(self):
        for parser in PARSERS:
            parser("").append("z")
            self.assertEqual(parser(""), [])

    def test_long_values(self):
        for run in long_runs():
            _, shown, _, _ = values.played_by_the_book(run)
            self.assertEqual(parse_run(format_run(run)), run)
            self.assertEqual(parse_counted(format_counted(shown)), shown)
            log = [key for key, _ in shown]
            self.assertEqual(parse_log(format_log(log)), log)
        self.assertEqual(parse_counted(format_counted(values.long_counted())), values.long_counted())


class Positions(unittest.TestCase):
    def check(self, parser, text, position):
        with self.subTest(parser=parser.__name__, text=text):
            with self.assertRaises(InvalidText) as caught:
                parser(text)
            self.assertIs(type(caught.exception), InvalidText)
            self.assertEqual(caught.exception.position, position)

    def test_empty_words(self):
        for parser, one, two in [(parse_log, "a", "b"), (parse_counted, "a#1", "b#1"), (parse_run, "+a", "!")]:
            for text, position in [
                (" ", 0), ("  ", 0), (f" {one}", 0), (f"{one} ", 1), (f"{one}  {two}", 1), (f"{one} {two} ", 2),
                (f"{one} {two}  ", 2), (f"  {one}", 0), (f"{one} {two}  {one}", 2),
            ]:
                self.check(parser, text, position)

    def test_newlines(self):
        for parser, one, two in [(parse_log, "a", "b"), (parse_counted, "a#1", "b#1"), (parse_run, "+a", "!")]:
            for text, position in [
                ("\n", 0), (f"{one}\n", 0), (f"\n{one}", 0), (f"{one}\n{two}", 0), (f"{one} \n", 1), (f"{one} {two}\n", 1),
                (f"{one} \n{two}", 1), (f"{one}\t{two}", 0), (f"{one}\r", 0),
            ]:
                self.check(parser, text, position)

    def test_words_that_are_none(self):
        for wrong in ["A", "2a", "_a", "a" * 13, "a#1", "+a", "!", "#", "a-b", "a,b", "\u00e9", "a\u0661", "{a}"]:
            self.check(parse_log, wrong, 0)
            self.check(parse_log, "a b " + wrong + " ?", 2)
        for wrong in [
            "a", "a#", "#1", "a#0", "a#00", "a#01", "a#-1", "a#+1", "a#1.0", "a#1_0", "a#one", "a##1", "a#1#", "a#1#1", "A#1",
            "+a#1", "!", "a#\u0661", "a#\u00b2", "a#1e3", "a#0x1", "a" * 13 + "#1", "1#a", "a #1", "a# 1", "a#1,", "2a#1",
        ]:
            self.check(parse_counted, wrong, 0)
            self.check(parse_counted, "a#1 b#1 " + wrong + " ?", 2)
        for wrong in ["a", "+", "+A", "++a", "+a!", "a+", "+2a", "-a", "!!", "! ", "+a#1", "send", "+" + "a" * 13, "?", "#", "+_a"]:
            self.check(parse_run, "+a +b " + wrong + (" ?" if not wrong.endswith(" ") else "?"), 2 + wrong.endswith(" "))
        self.check(parse_run, "?", 0)

    def test_counts_that_are_not_greater(self):
        for text, position in [
            ("a#1 a#1", 1), ("a#2 a#1", 1), ("a#1 b#1 a#1", 2), ("a#5 b#7 a#6 b#7", 3), ("a#10 a#9", 1), ("a#1 a#2 a#2 a#x", 2),
            (f"a#{GREAT} a#{GREAT - 1}", 1), (f"a#{GREAT} b#1 a#{GREAT}", 2),
        ]:
            self.check(parse_counted, text, position)

    def test_sends_while_no_key_waits(self):
        for text, position in [
            ("!", 0), ("! +a", 0), ("+a ! !", 2), ("+a +a ! !", 3), ("+a ! ! ?", 2), ("+a ! ? !", 2), ("+a ! +b ! ! !", 4),
            ("+a +b ! ! +a ! ! +A", 6), ("! ?", 0), ("? !", 0),
        ]:
            self.check(parse_run, text, position)

    def test_counts_with_many_digits(self):
        for many in (31, 32, 63, 64, 65, 127, 128, 129, 1000, 3996, 5000, 20000):
            number = 10 ** many - 1
            text = "a#" + "9" * many
            self.assertEqual(parse_counted(text), [("a", number)])
            self.assertEqual(format_counted([("a", number)]), text)
            text = "a#1" + "0" * (many - 1)
            self.assertEqual(parse_counted(text), [("a", 10 ** (many - 1))])
            self.assertEqual(format_counted([("a", 10 ** (many - 1))]), text)
            self.check(parse_counted, text + " " + text, 1)
            self.check(parse_counted, "a#0" + "9" * many, 0)
            self.check(parse_counted, "a#" + "9" * many + "x", 0)
        digits = "123456789" * 20
        self.assertEqual(parse_counted(f"k#{digits}"), [("k", int(digits))])
        self.assertEqual(format_counted([("k", int(digits))]), f"k#{digits}")
        self.assertEqual(parse_counted("a#" + "9" * 63 + " a#1" + "0" * 63), [("a", 10 ** 63 - 1), ("a", 10 ** 63)])

    def test_all_short_texts(self):
        for length in range(6):
            for signs in itertools.product(SIGNS, repeat=length):
                text = "".join(signs)
                found = [parsed(parser, text) for parser in PARSERS]
                if found != [log_by_hand(text), counted_by_hand(text), run_by_hand(text)]:
                    self.fail(repr(text))

    def test_short_texts_of_whole_words(self):
        for parser, by_hand, words in [
            (parse_log, log_by_hand, ["a", "b", "A", ""]), (parse_run, run_by_hand, ["+a", "+b", "!", "+", ""]),
            (parse_counted, counted_by_hand, ["a#1", "a#2", "a#10", "b#1", "b", ""]),
        ]:
            for length in range(1, 6):
                for chosen in itertools.product(words, repeat=length):
                    text = " ".join(chosen)
                    if parsed(parser, text) != by_hand(text):
                        self.fail(repr(text))


class BothWays(unittest.TestCase):
    def test_small_runs(self):
        for run, _, shown, _ in values.small_runs()[::2]:
            log = [key for key, _ in shown]
            self.assertEqual(parse_run(format_run(run)), run)
            self.assertEqual(parse_counted(format_counted(shown)), shown)
            self.assertEqual(parse_log(format_log(log)), log)


class Wrong(unittest.TestCase):
    def check(self, error, function, value):
        with self.assertRaises(error) as caught:
            function(value)
        self.assertIs(type(caught.exception), error)
        return caught.exception

    def test_values_that_are_no_strings(self):
        for value in values.plain_values() + [0, 1, -1, [], ["a"], (), ("a",), values.nested_in_itself()]:
            for parser in PARSERS:
                self.assertIsNone(self.check(InvalidText, parser, value).position)

    def test_logs(self):
        for value in values.wrong_logs():
            self.check(InvalidLog, format_log, value)

    def test_counted_logs(self):
        for value in values.wrong_counted():
            self.check(InvalidLog, format_counted, value)

    def test_runs(self):
        for value in values.wrong_runs():
            self.check(InvalidRun, format_run, value)


if __name__ == "__main__":
    unittest.main()
