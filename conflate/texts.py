"""Texts of logs, counted logs and runs."""

from conflate.errors import InvalidRun, InvalidText
from conflate.keys import check_log, checked_counts, is_key, is_run
from conflate.playing import SEND, play

# Python refuses to convert numbers of very many digits at once, so they are converted in pieces.
PIECE = 64
PIECE_END = 10 ** 64


def digits_of(number):
    """Return the decimal digits of a number from 0 on, however many they are."""
    pieces = []
    while number >= PIECE_END:
        number, piece = divmod(number, PIECE_END)
        pieces.append(str(piece).zfill(PIECE))
    pieces.append(str(number))
    pieces.reverse()
    return "".join(pieces)


def number_of(digits):
    """Return the number with these decimal digits, however many they are."""
    many = (len(digits) + PIECE - 1) // PIECE
    digits = digits.zfill(many * PIECE)
    number = 0
    for start in range(0, len(digits), PIECE):
        number = number * PIECE_END + int(digits[start:start + PIECE])
    return number


def format_log(log):
    """Return the text of a plain log."""
    check_log(log)
    return " ".join(log)


def format_counted(counted):
    """Return the text of a counted log."""
    checked_counts(counted)
    return " ".join([f"{key}#{digits_of(count)}" for key, count in counted])


def format_run(run):
    """Return the text of a run."""
    if not is_run(run):
        raise InvalidRun("not a run")
    return " ".join(["!" if len(event) == 1 else "+" + event[1] for event in run])


def words_of(text):
    """Return the words of a text; raise InvalidText if it is not a string."""
    if not isinstance(text, str):
        raise InvalidText(None)
    return text.split(" ") if text else []


def is_number(word):
    """Return whether a word is a number in decimal digits without leading zeros."""
    return word.isascii() and word.isdigit() and (word == "0" or not word.startswith("0"))


def parse_log(text):
    """Return the plain log with this text."""
    words = words_of(text)
    for position, word in enumerate(words):
        if not is_key(word):
            raise InvalidText(position)
    return words


def parse_counted(text):
    """Return the counted log with this text."""
    last = {}
    counted = []
    for position, word in enumerate(words_of(text)):
        key, _, digits = word.partition("#")
        if not is_key(key) or not is_number(digits):
            raise InvalidText(position)
        count = number_of(digits)
        if count <= last.get(key, 0):
            raise InvalidText(position)
        last[key] = count
        counted.append((key, count))
    return counted


def event_of(word):
    """Return the event with this word, or None if there is none."""
    if word == "!":
        return SEND
    if word.startswith("+") and is_key(word[1:]):
        return "write", word[1:]
    return None


def parse_run(text):
    """Return the run with this text."""
    words = words_of(text)
    events = []
    for word in words:
        event = event_of(word)
        if event is None:
            break
        events.append(event)
    keys, shown, _ = play(events)
    # Here stands the first word that is no event, or before it a send while no key waits.
    position = len(keys) + len(shown)
    if position < len(words):
        raise InvalidText(position)
    return events
