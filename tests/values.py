"""Values that the tests share: events, wrong values of every kind, all small runs."""

import itertools

SEND = ("send",)
LOWER = "abcdefghijklmnopqrstuvwxyz"
REST = LOWER + "0123456789_"


def w(key):
    return ("write", key)


def events(text):
    """Events written short: a letter writes this key, `!` sends."""
    return [SEND if sign == "!" else w(sign) for sign in text]


class Hostile:
    """An object that cannot be compared, hashed, measured, tested or iterated over."""

    __hash__ = None

    def _refuse(self, *more):
        raise RuntimeError("this object was asked for something")

    __eq__ = __ne__ = __lt__ = __le__ = __gt__ = __ge__ = _refuse
    __len__ = __bool__ = __iter__ = __getitem__ = __contains__ = _refuse
    __str__ = __repr__ = __index__ = __int__ = __call__ = _refuse


class EqualToAll:
    """An object that says it is equal to everything, and cannot be hashed."""

    __hash__ = None

    def __eq__(self, other):
        return True

    def __ne__(self, other):
        return False


class EqualToKeyA:
    """An object that is no string but is found where the key a is looked for."""

    def __hash__(self):
        return hash("a")

    def __eq__(self, other):
        return other == "a"


def plain_values():
    """Values that are no string, list or tuple, hashable or not, and no integer either."""
    return [
        None, True, False, 1.0, 1.5, float("nan"), float("inf"), 1j, b"", b"a", bytearray(b"a"),
        {}, {"a": 1}, set(), {"a"}, frozenset(), frozenset(["a"]), range(0), range(3), ...,
        NotImplemented, object(), object, str, list, len, lambda: "a", iter("a"), iter([]),
        (key for key in ["a"]), {"a": 1}.keys(), {"a": 1}.items(), ValueError("a"), memoryview(b"a"),
        Hostile(), EqualToAll(), EqualToKeyA(), zip("a", [1]),
    ]


def nested_in_itself():
    value = []
    value.append(value)
    return value


def wrong_keys():
    """Values that are not keys."""
    return plain_values() + [
        0, 1, -1, 10 ** 30, [], ["a"], [["a"]], (), ("a",), ("a", 1), nested_in_itself(),
        "", " ", "A", "aB", "2nd", "_a", "_", "0", "a b", " a", "a ", "a\n", "\n", "a\t", "a-b", "a.b",
        "a#1", "+a", "!", "a" * 13, "a" * 12 + "\n", "a" * 4000, "\u00e9", "a\u00e9", "a\u0661", "\u03b1",
        "a\u00b2", "a\u0000", "a{", "a`", "a/", "a:", "a^", "\ud800",
        "\u00aa", "a\u00b7", "a _b", "a _", "b  a", "a b_", "__", "_9", "9_", "a\u017f", "\u212aa", "aA", "a\u0130",
    ]


def wrong_counts():
    """Values that are not counts of writes."""
    return plain_values() + [0, -1, -10 ** 30, "1", "", [], [1], (), (1,), nested_in_itself()]


def wrong_items(many):
    """Values that are not items of a log of so many items."""
    return plain_values() + [
        many, many + 1, -1, -many, 10 ** 30, -10 ** 30, "0", "1", "", "a", [], [0], (), (0,), {0: 0}, {0},
        nested_in_itself(),
    ]


def wrong_writes():
    """Values that are not writes."""
    return (
        plain_values()
        + [0, 1, "", "a", "a#1", "ab", [], ["a", 1], (), ("a",), (1,), ("a", 1, 1), ("a", 1, None)]
        + [(1, "a"), (("a", 1),), [("a", 1)], nested_in_itself()]
        + [(key, 1) for key in wrong_keys()]
        + [("a", count) for count in wrong_counts()]
    )


def wrong_events():
    """Values that are not events."""
    return (
        plain_values()
        + [0, 1, "", "a", "send", "write", "+a", "!", [], ["send"], ["write", "a"], ()]
        + [("write",), ("a",), ("send", None), ("send", "a"), ("send", "send"), ("write", "a", "a")]
        + [("write", "a", None), ("write", ("a",)), ("a", "write"), ("Send",), ("sends",), ("send ",)]
        + [("",), ("", "a"), ("Write", "a"), ("writes", "a"), ("read", "a"), ("wr", "a"), (("send",),)]
        + [("sen",), ("s",), ("w", "a"), nested_in_itself()]
        + [(word,) for word in plain_values()]
        + [(word, "a") for word in plain_values()]
        + [("write", key) for key in wrong_keys()]
    )


def wrong_lists(wrong_parts, right_part, second_part):
    """Values that are no lists of right parts: other kinds, and lists with a wrong part at each place."""
    values = plain_values() + [0, 1, "", "a", "ab", "send", (), (right_part,), (right_part, second_part)]
    values += [{right_part: True}, {right_part}, iter([right_part]), nested_in_itself(), [[right_part]]]
    for part in wrong_parts:
        values += [[part], [part, right_part], [right_part, part], [right_part, part, second_part]]
    return values


def wrong_logs():
    """Values that are not logs."""
    return wrong_lists(wrong_keys(), "a", "b")


def wrong_counted():
    """Values that are not counted logs."""
    values = wrong_lists(wrong_writes(), ("a", 1), ("b", 1))
    values += [["a"], ["a", 1], [("a", 1), "a"]]
    values += [
        [("a", 1), ("a", 1)], [("a", 2), ("a", 2)], [("a", 2), ("a", 1)],
        [("a", 1), ("b", 1), ("a", 1)], [("b", 5), ("a", 7), ("b", 6), ("a", 8), ("b", 6)],
        [("a", 10), ("a", 9)], [("a", 1), ("a", 3), ("a", 2)], [("a", 3), ("a", 1), ("a", 2)],
        [("a", 10 ** 30), ("a", 10 ** 30)], [("a", 10 ** 29 + 1), ("a", 10 ** 29)],
        [("a", 1), ("a", True)],
    ]
    return values


def wrong_event_lists():
    """Values that are not lists of events."""
    values = wrong_lists(wrong_events(), w("a"), w("b"))
    # An event behind a fault is still looked at.
    return values + [[SEND, part] for part in wrong_events()] + [tuple(events("a!")), (SEND,)]


FAULTY_EVENTS = ["!", "!a", "!!", "a!!", "aa!!", "aa!!a", "ab!!!", "aba!!!", "a!b!!a", "a!a!!", "abab!!!ab"]


def wrong_runs():
    """Values that are not runs."""
    return wrong_event_lists() + [events(text) for text in FAULTY_EVENTS]


def all_event_lists(keys, length):
    """All lists of so many events over these keys."""
    choices = [w(key) for key in keys] + [SEND]
    return [list(chosen) for chosen in itertools.product(choices, repeat=length)]


def played_by_the_book(given):
    """Play events as point 6 tells it; return entries, shown and waiting writes, and the first fault."""
    writes, queue, entries, shown = [], [], {}, []
    for at, event in enumerate(given):
        if event == SEND:
            if not queue:
                return None, None, None, at
            key = queue[0]
            queue = queue[1:]
            shown.append((entries[key], (key, writes.count(key))))
        else:
            key = event[1]
            writes.append(key)
            if key not in queue:
                queue = queue + [key]
                entries[key] = (key, writes.count(key))
    waiting = [(key, writes.count(key)) for key in queue]
    return [entry for entry, _ in shown], [write for _, write in shown], waiting, None


def small_runs():
    """All runs of at most 5 events over three keys, and of 6 over two, with what the book says of them."""
    found = []
    for keys, length in [("abc", 0), ("abc", 1), ("abc", 2), ("abc", 3), ("abc", 4), ("abc", 5), ("ab", 6)]:
        for given in all_event_lists(keys, length):
            entries, shown, waiting, fault = played_by_the_book(given)
            if fault is None:
                found.append((given, entries, shown, waiting))
    return found


def long_run():
    """A run of 1,000 events with 200 keys: each written twice, then some sent, then some written again."""
    keys = [f"key_{number}" for number in range(200)]
    return (
        [w(key) for key in keys] + [w(key) for key in reversed(keys)]
        + [SEND] * 150 + [w(key) for key in keys] + [SEND] * 200 + [w("key_7")] * 50
    )


def long_counted():
    """A counted log of 200 items over 8 keys with counts of thirty digits."""
    return [(f"k{item * item % 8}", 10 ** 29 + item * item) for item in range(200)]


def wrong_mirror_logs():
    """Values that are not lists of at least one counted log."""
    right = [("a", 1)]
    values = plain_values() + [0, 1, "", "a", "ab", (), [], (right,), (right, right), {0: right}, iter([right])]
    values += [right, ("a", 1), "a#1", [right, None], [None, right], [tuple(right)], [right, ()], [right, ["a"]]]
    for part in wrong_counted():
        values += [[part], [part, right], [right, part], [[], right, part]]
    return values


def wrong_cuts():
    """Values that are not cuts of logs that show a up to 2 and b up to 1."""
    values = plain_values() + [0, 1, "", "a", [], (), {}, {"a": 1}, {"b": 1}, {"a": 1, "c": 1}, nested_in_itself()]
    values += [[("a", 1), ("b", 1)], (("a", 1), ("b", 1)), {"a", "b"}, ["a", "b"], [1, 1], [{"a": 1, "b": 1}]]
    values += [{"a": 1, "b": 1, "c": 0}, {"a": 1, "b": 1, "c": 1}, {"a": 1, "b": 1, None: 0}, {"a": 1, 1: 1}]
    values += [{"a": 1, ("b",): 1}, {("a", 1): 1, ("b", 1): 1}, {"A": 1, "b": 1}, {"": 1, "b": 1}, {0: 1, 1: 1}]
    for count in wrong_counts():
        if not isinstance(count, int) or isinstance(count, bool) or count < 0:
            values += [{"a": count, "b": 1}, {"a": 1, "b": count}, {"b": count, "a": 1}]
    values += [{EqualToKeyA(): 1, "b": 1}, {"b": 1, EqualToKeyA(): 1}]
    values += [{"a": 3, "b": 1}, {"a": 1, "b": 2}, {"a": 10 ** 30, "b": 0}, {"a": -1, "b": 0}, {"a": 0, "b": -1}]
    return values


def wrong_numbers(least, most):
    """Values that are not integers from the least to the most."""
    values = plain_values() + ["0", "1", "", "a", [], [0], (), (0,), {0: 0}, {0}, nested_in_itself()]
    return values + [least - 1, least - 2, most + 1, most + 2, -10 ** 30, 10 ** 30 + most]
