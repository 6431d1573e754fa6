"""What a run writes, shows, leaves waiting and hides."""

from conflate.errors import InvalidRun
from conflate.keys import is_events, is_run
from conflate.playing import SEND, empty_send, played


def check_run(value):
    """Raise InvalidRun unless the value is a run."""
    if not is_run(value):
        raise InvalidRun("not a run: a list of events in which no send finds the queue empty")


def write_events(keys):
    """Return the events that write these keys."""
    return [("write", key) for key in keys]


def writes_of(run):
    """Return the written keys of a run, in order."""
    check_run(run)
    return [event[1] for event in run if event != SEND]


def shown_by(run):
    """Return the counted log of a run."""
    check_run(run)
    return played(run).shown


def waiting_after(run):
    """Return the present writes that wait at the end, in the order of the queue."""
    check_run(run)
    return played(run).present_writes()


def hidden_in(run):
    """Return the ascending list of the hidden writes of a run."""
    check_run(run)
    queue = played(run)
    seen = set(queue.shown + queue.present_writes())
    hidden = []
    for key in sorted(queue.counts):
        for count in range(1, queue.counts[key] + 1):
            if (key, count) not in seen:
                hidden.append((key, count))
    return hidden


def first_fault(events):
    """Return the index of the first send that finds the queue empty, or None."""
    if not is_events(events):
        raise InvalidRun("not a list of events")
    return empty_send(events)


def numbered_writes(keys):
    """Return a dict from each write to its number among all writes, from 1 on."""
    counts = {}
    numbers = {}
    for number, key in enumerate(keys, start=1):
        counts[key] = counts.get(key, 0) + 1
        numbers[(key, counts[key])] = number
    return numbers


def earliest_run(run):
    """Return the run with these writes and this log in which each send is as early as possible."""
    keys = writes_of(run)
    numbers = numbered_writes(keys)
    made = 0
    earliest = []
    for write in shown_by(run):
        # A send needs the write that it shows, and all that the sends before it need.
        needed = max(made, numbers[write])
        earliest.extend(write_events(keys[made:needed]))
        earliest.append(SEND)
        made = needed
    return earliest + write_events(keys[made:])
