"""A hub that takes rows of words and answers with words."""

from conflate.chains import sure_depth
from conflate.cuts import sure_moments
from conflate.errors import InvalidCommand, InvalidKey, NothingToUndo
from conflate.hub import Hub
from conflate.keys import are_keys, keys_of
from conflate.pairs import is_sure
from conflate.relations import is_before
from conflate.texts import format_counted, is_number

MOST_DIGITS = 31
# For each first word what must follow it: K for a key, N for a number.
FORMS = {
    "attach": "", "undo": "", "contents": "",
    "send": "N", "drain": "N", "log": "N", "waiting": "N", "moments": "N",
    "sure": "NNN", "depth": "NNN", "before": "KNKN",
}


def number_in(word):
    """Return the number that a word shows; raise InvalidCommand if it shows none."""
    if not is_number(word) or len(word) > MOST_DIGITS:
        raise InvalidCommand("not a number without leading zeros, or too long")
    return int(word)


def words_in(row):
    """Return the words of a row; raise InvalidCommand if it is no string of words."""
    if not isinstance(row, str) or "\n" in row:
        raise InvalidCommand("not a row")
    words = row.split(" ")
    if "" in words:
        raise InvalidCommand("an empty word")
    return words


def values_in(row):
    """Return the first word of a row and the values behind it: keys as they stand, and numbers."""
    first, *words = words_in(row)
    if first == "write" and words:
        return first, words
    form = FORMS.get(first)
    if form is None or len(words) != len(form):
        raise InvalidCommand("not a first word, or not the number of words that it asks for")
    return first, [number_in(word) if sign == "N" else word for sign, word in zip(form, words)]


def shown(writes):
    """Return the words of some writes."""
    return format_counted(writes) or "none"


class Console:
    """A hub without writes and mirrors at first, for which each row writes, sends, reverts or asks."""

    def __init__(self):
        self._hub = Hub()
        # For each row that changed something and has not been reverted, the number of its calls.
        self._calls = []

    def execute(self, row):
        """Carry out one row and return the answer."""
        first, given = values_in(row)
        if first == "undo":
            return self._undo()
        if first == "write":
            return self._write(given)
        if first == "contents":
            return shown(list(self._hub.contents.items()))
        if first == "before":
            return self._before((given[0], given[1]), (given[2], given[3]))
        if first == "attach":
            mirror = self._hub.attach()
            self._calls.append(1)
            return str(mirror)
        return self._of_mirror(first, given[0], given[1:])

    def _undo(self):
        """Revert the last row that changed something."""
        if not self._calls:
            raise NothingToUndo("no row is left")
        for _ in range(self._calls.pop()):
            self._hub.undo()
        return "ok"

    def _write(self, keys):
        """Write all these keys, or none if one of them is none."""
        if not are_keys(keys):
            raise InvalidKey("not a key")
        writes = [(key, self._hub.write_key(key)) for key in keys]
        self._calls.append(len(keys))
        return shown(writes)

    def _before(self, write, other):
        """Answer whether a write was certainly before another one, by the logs of all mirrors."""
        return "yes" if is_before(self._logs(), write, other) else "no"

    def _logs(self):
        """Return the logs of all mirrors."""
        return [self._hub.log_of(mirror) for mirror in range(self._hub.mirror_count)]

    def _of_mirror(self, first, mirror, items):
        """Carry out a row that is about one mirror."""
        log = self._hub.log_of(mirror)
        if first == "log":
            return shown(log)
        if first == "waiting":
            return shown(self._hub.waiting_in(mirror))
        if first == "sure":
            return "yes" if is_sure(keys_of(log), items[0], items[1]) else "no"
        if first == "depth":
            depth = sure_depth(keys_of(log), items[0], items[1])
            return "any" if depth is None else str(depth)
        if first == "moments":
            return " ".join([str(moment) for moment in sure_moments(self._logs(), mirror)])
        return shown(self._sent(first, mirror))

    def _sent(self, first, mirror):
        """Send once, or until nothing waits, and return the shown writes."""
        if first == "send":
            writes = [self._hub.send_from(mirror)]
        elif self._hub.waiting_in(mirror):
            writes = self._hub.send_all(mirror)
        else:
            # Nothing changes, so no call is made that could be reverted.
            return []
        self._calls.append(1)
        return writes
