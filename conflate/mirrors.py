"""Logs of several mirrors of one source: whether they go together, and in which order their writes happened."""

from conflate.errors import Inconsistent, InvalidLogs, InvalidWrite
from conflate.keys import counts_in, is_integer


def checked_logs(value):
    """Return the last counts of each log; raise InvalidLogs unless the value is a list of counted logs."""
    if not isinstance(value, list) or not value:
        raise InvalidLogs("not a list of at least one counted log")
    lasts = [counts_in(log) for log in value]
    if None in lasts:
        raise InvalidLogs("one of the logs is not a counted log")
    return lasts


def greatest_counts(lasts):
    """Return the greatest count of each key that the logs with these last counts show."""
    greatest = {}
    for last in lasts:
        for key, count in last.items():
            greatest[key] = max(count, greatest.get(key, 0))
    return greatest


def exists(greatest, value):
    """Return whether any value is a write that exists with these greatest counts."""
    if not isinstance(value, tuple) or len(value) != 2:
        return False
    key, count = value
    return isinstance(key, str) and is_integer(count) and 1 <= count <= greatest.get(key, 0)


def check_write(greatest, value):
    """Raise InvalidWrite unless the value is a write that exists."""
    if not exists(greatest, value):
        raise InvalidWrite("not a write that exists")


def marked_in(logs, greatest):
    """Return the ascending list of the marked writes."""
    marked = set()
    for key in greatest:
        marked.add((key, 1))
    for log in logs:
        for key, count in log:
            marked.add((key, count))
            # The entries are the first writes of the keys and writes that follow shown ones.
            if count < greatest[key]:
                marked.add((key, count + 1))
    return sorted(marked)


def marked_writes(logs):
    """Return the ascending list of the marked writes of the logs."""
    return marked_in(logs, greatest_counts(checked_logs(logs)))


class Told:
    """What one log tells: the items of its entries and shown writes, and the counts that follow its last ones."""

    def __init__(self, log):
        self.entry_items = {}
        self.shown_items = {}
        self.following = {}
        self.last_entry = None
        for item, (key, count) in enumerate(log):
            self.last_entry = key, self.following.get(key, 1)
            self.entry_items[self.last_entry] = item
            self.shown_items[(key, count)] = item
            self.following[key] = count + 1

    def puts_before(self, write, other):
        """Return whether the conditions (2) to (4) put a write directly before another one."""
        entry = self.entry_items.get(write)
        if entry is not None and entry < self.entry_items.get(other, -1):
            return True
        key, count = other
        shown = self.shown_items.get(write)
        if shown is not None and shown <= self.shown_items.get((key, count - 1), -1):
            return True
        return write == self.last_entry and count == self.following.get(key, 1)


def is_directly_before(tolds, write, other):
    """Return whether an existing write is directly before another one, by what the logs say."""
    if write[0] == other[0]:
        return write[1] < other[1]
    for told in tolds:
        if told.puts_before(write, other):
            return True
    return False


def is_direct(logs, write, other):
    """Return whether a write is directly before another one."""
    greatest = greatest_counts(checked_logs(logs))
    check_write(greatest, write)
    check_write(greatest, other)
    return is_directly_before([Told(log) for log in logs], write, other)


# For all other questions the relation is a list: for each place of a marked write the places that it
# leads to. Behind the marked writes, one more place stands for each item, for the send that shows
# it: the shown write leads to its send, and a send leads to the next one of its log and to the
# write that follows the shown one. So few steps tell all that condition (3) tells, and no ring
# consists of sends alone.


def steps_of(logs, marked, greatest):
    """Return for each place of a marked write, and for each send behind them, the places it leads to."""
    places = {write: place for place, write in enumerate(marked)}
    steps = [[] for _ in marked]
    for place in range(1, len(marked)):
        if marked[place - 1][0] == marked[place][0]:
            steps[place - 1].append(place)
    for log in logs:
        if log:
            add_steps(steps, places, log, greatest)
    return steps


def add_steps(steps, places, log, greatest):
    """Add what one log says to the steps."""
    following = {}
    sends = range(len(steps), len(steps) + len(log))
    entered = None
    for send, (key, count) in zip(sends, log):
        entry = places[(key, following.get(key, 1))]
        if entered is not None:
            steps[entered].append(entry)
        entered = entry
        steps[places[(key, count)]].append(send)
        steps.append([])
        if send > sends[0]:
            steps[send - 1].append(send)
        if count < greatest[key]:
            steps[send].append(places[(key, count + 1)])
        following[key] = count + 1
    for key, count in greatest.items():
        if following.get(key, 1) <= count:
            steps[entered].append(places[(key, following.get(key, 1))])


def in_order(steps):
    """Return the places such that each one stands before those that it leads to.

    The places of rings, and those behind them, are missing.
    """
    before = [0] * len(steps)
    for row in steps:
        for place in row:
            before[place] += 1
    ready = [place for place, many in enumerate(before) if many == 0]
    ordered = []
    while ready:
        place = ready.pop()
        ordered.append(place)
        for other in steps[place]:
            before[other] -= 1
            if before[other] == 0:
                ready.append(other)
    return ordered


def ring_among(marked, steps, ordered):
    """Return a ring, or None if all places have been put in order."""
    if len(ordered) == len(steps):
        return None
    left = [True] * len(steps)
    for place in ordered:
        left[place] = False
    origins = {}
    for place, row in enumerate(steps):
        if left[place]:
            for other in row:
                origins[other] = place
    # Each place that is left has an origin that is left, so the way back comes to a ring.
    way = []
    passed = {}
    place = left.index(True)
    while place not in passed:
        passed[place] = len(way)
        way.append(place)
        place = origins[place]
    ring = way[passed[place]:]
    ring.reverse()
    return [marked[place] for place in ring if place < len(marked)]


def relation_of(logs, greatest):
    """Return the marked writes, the steps, and the places in order as far as there is one."""
    marked = marked_in(logs, greatest)
    steps = steps_of(logs, marked, greatest)
    return marked, steps, in_order(steps)


def consistent_relation(logs, greatest):
    """Return what relation_of tells of consistent logs; raise Inconsistent for others."""
    marked, steps, ordered = relation_of(logs, greatest)
    ring = ring_among(marked, steps, ordered)
    if ring is not None:
        raise Inconsistent(ring)
    return marked, steps, ordered


def is_consistent(logs):
    """Return whether one source, with a queue for each log, can show the logs."""
    return ring_in(logs) is None


def ring_in(logs):
    """Return a ring, or None if the logs are consistent."""
    marked, steps, ordered = relation_of(logs, greatest_counts(checked_logs(logs)))
    return ring_among(marked, steps, ordered)


def is_ring(logs, value):
    """Return whether any value is a ring of the logs."""
    greatest = greatest_counts(checked_logs(logs))
    if not isinstance(value, list) or not value:
        return False
    for write in value:
        if not exists(greatest, write):
            return False
    tolds = [Told(log) for log in logs]
    for place, write in enumerate(value):
        if not is_directly_before(tolds, value[place - 1], write):
            return False
    return True


def history_of(logs):
    """Return a history of the logs; raise Inconsistent if they have none."""
    marked, _, ordered = consistent_relation(logs, greatest_counts(checked_logs(logs)))
    return [marked[place] for place in ordered if place < len(marked)]


def is_history(logs, value):
    """Return whether any value is a history of the logs."""
    greatest = greatest_counts(checked_logs(logs))
    marked = marked_in(logs, greatest)
    if not isinstance(value, list) or len(value) != len(marked):
        return False
    for write in value:
        if not exists(greatest, write):
            return False
    times = {write: time for time, write in enumerate(value)}
    for write in marked:
        if write not in times:
            return False
    return keeps_steps([times[write] for write in marked], steps_of(logs, marked, greatest))


def keeps_steps(times, steps):
    """Return whether writes at these times happen behind all that leads to them."""
    many = len(times)
    times = times + [0] * (len(steps) - many)
    for place, row in enumerate(steps):
        for other in row:
            if other >= many:
                # A send is at least as late as the write that it shows and the send before it.
                times[other] = max(times[other], times[place])
            elif times[place] >= times[other]:
                return False
    return True
