"""A live source with its mirrors."""

from conflate.errors import InvalidKey, InvalidMirror, InvalidNumber, NothingToSend, NothingToUndo, TooLarge
from conflate.keys import is_integer, is_key
from conflate.queues import checked_run

MOST_MIRRORS = 20
MOST_ITEMS = 200


class Mirror:
    """The log of a mirror, and all keys that have entered its queue; those behind the log's items wait."""

    def __init__(self, entered, log):
        self.entered = entered
        self.log = log
        self.waits = {key: True for key in entered[len(log):]}

    def enter(self, key):
        """Let a key enter the queue; return whether it did not wait there already."""
        if key in self.waits:
            return False
        self.waits[key] = True
        self.entered.append(key)
        return True

    def leave(self):
        """Take back the last entry."""
        del self.waits[self.entered.pop()]

    def waiting(self):
        """Return the waiting keys, the first one first."""
        return self.entered[len(self.log):]

    def show(self, counts):
        """Send the first waiting key, with the count that it has now, and return the write."""
        key = self.entered[len(self.log)]
        del self.waits[key]
        self.log.append((key, counts[key]))
        return self.log[-1]

    def take_back(self, many):
        """Take back so many sends."""
        for key, _ in self.log[len(self.log) - many:]:
            self.waits[key] = True
        del self.log[len(self.log) - many:]


class Hub:
    """A source of writes, and mirrors that each receive them through a queue."""

    def __init__(self):
        self._writes = []
        # In the order of the first writes.
        self._counts = {}
        self._mirrors = []
        # ("write", the numbers of the mirrors whose queues the key entered), ("attach",) or
        # ("send", the number of a mirror, the number of sends) for each call.
        self._calls = []

    @classmethod
    def from_run(cls, run):
        """Return a hub with one mirror for which the events of a run have been called."""
        if len(checked_run(run)[1]) > MOST_ITEMS:
            raise TooLarge(MOST_ITEMS)
        hub = cls()
        hub.attach()
        for event in run:
            if len(event) == 2:
                hub.write_key(event[1])
            else:
                hub.send_from(0)
        return hub

    @property
    def contents(self):
        """The number of writes of each written key."""
        return {key: self._counts[key] for key in sorted(self._counts)}

    @property
    def mirror_count(self):
        """The number of mirrors."""
        return len(self._mirrors)

    @property
    def write_count(self):
        """The number of writes."""
        return len(self._writes)

    def __len__(self):
        return len(self._calls)

    def __eq__(self, other):
        if not isinstance(other, Hub):
            return False
        if self._writes != other._writes or len(self._mirrors) != len(other._mirrors):
            return False
        for mine, theirs in zip(self._mirrors, other._mirrors):
            if mine.log != theirs.log or mine.entered != theirs.entered:
                return False
        return True

    def write_key(self, key):
        """Write a key for all mirrors and return the count of this write."""
        if not is_key(key):
            raise InvalidKey("not a key")
        self._writes.append(key)
        self._counts[key] = self._counts.get(key, 0) + 1
        entered = []
        for number, mirror in enumerate(self._mirrors):
            if mirror.enter(key):
                entered.append(number)
        self._calls.append(("write", tuple(entered)))
        return self._counts[key]

    def attach(self):
        """Add a mirror for which each written key waits, and return its number."""
        if len(self._mirrors) == MOST_MIRRORS:
            raise TooLarge(MOST_MIRRORS)
        self._mirrors.append(Mirror(list(self._counts), []))
        self._calls.append(("attach",))
        return len(self._mirrors) - 1

    def send_from(self, mirror):
        """Make one send from the queue of a mirror and return the shown write."""
        if not self._mirror(mirror).waiting():
            raise NothingToSend("no key waits")
        return self._send(mirror, 1)[0]

    def send_all(self, mirror, *, most=None):
        """Send until no key waits, or so many times at most, and return the shown writes."""
        many = len(self._mirror(mirror).waiting())
        if most is not None:
            if not is_integer(most) or most < 0:
                raise InvalidNumber("not a number of sends")
            many = min(many, most)
        return self._send(mirror, many)

    def log_of(self, mirror):
        """Return the writes that a mirror has been shown."""
        return list(self._mirror(mirror).log)

    def waiting_in(self, mirror):
        """Return the present writes that wait in the queue of a mirror, the first one first."""
        return [(key, self._counts[key]) for key in self._mirror(mirror).waiting()]

    def undo(self):
        """Revert the last call that changed the hub and has not been reverted."""
        if not self._calls:
            raise NothingToUndo("no call is left")
        call = self._calls.pop()
        if call[0] == "write":
            self._unwrite(call[1])
        elif call[0] == "attach":
            self._mirrors.pop()
        else:
            self._mirrors[call[1]].take_back(call[2])

    def duplicate(self):
        """Return an independent hub in the same state, in which the same calls can be reverted."""
        other = Hub()
        other._writes = list(self._writes)
        other._counts = dict(self._counts)
        other._mirrors = [Mirror(list(mirror.entered), list(mirror.log)) for mirror in self._mirrors]
        other._calls = list(self._calls)
        return other

    def _mirror(self, number):
        """Return the mirror with a number; raise InvalidMirror if there is none."""
        if not is_integer(number) or not 0 <= number < len(self._mirrors):
            raise InvalidMirror("not the number of a mirror")
        return self._mirrors[number]

    def _send(self, number, many):
        """Make so many sends for a mirror and return the shown writes."""
        if many + sum([len(mirror.log) for mirror in self._mirrors]) > MOST_ITEMS:
            raise TooLarge(MOST_ITEMS)
        self._calls.append(("send", number, many))
        return [self._mirrors[number].show(self._counts) for _ in range(many)]

    def _unwrite(self, entered):
        """Take back the last write, and its entries into the queues of these mirrors."""
        key = self._writes.pop()
        self._counts[key] -= 1
        if self._counts[key] == 0:
            del self._counts[key]
        for number in entered:
            self._mirrors[number].leave()
