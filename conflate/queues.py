"""What a run writes, shows, leaves waiting and hides."""

from conflate.errors import InvalidRun
from conflate.keys import is_events, played
from conflate.playing import SEND, play


def checked_run(value):
    """Return what playing.play tells of a run; raise InvalidRun if the value is not a run."""
    found = played(value)
    if found is None:
        raise InvalidRun("not a run: a list of events in which no send finds the queue empty")
    return found


def counted_writes(keys):
    """Return the writes of these keys, in order."""
    counts = {}
    writes = []
    for key in keys:
        counts[key] = counts.get(key, 0) + 1
        writes.append((key, counts[key]))
    return writes


def writes_of(run):
    """Return the written keys of a run, in order."""
    return checked_run(run)[0]


def shown_by(run):
    """Return the counted log of a run."""
    keys, shown, _ = checked_run(run)
    writes = counted_writes(keys)
    return [writes[number] for number in shown]


def waiting_after(run):
    """Return the present writes that wait at the end, in the order of the queue."""
    keys, _, waiting = checked_run(run)
    writes = counted_writes(keys)
    return [writes[number] for number in waiting]


def hidden_in(run):
    """Return the ascending list of the hidden writes of a run."""
    keys, shown, waiting = checked_run(run)
    seen = set(shown + waiting)
    hidden = [write for number, write in enumerate(counted_writes(keys)) if number not in seen]
    # The writes of each key come with ascending counts and keep their order.
    return sorted(hidden, key=lambda write: write[0])


def first_fault(events):
    """Return the index of the first send that finds the queue empty, or None."""
    if not is_events(events):
        raise InvalidRun("not a list of events")
    keys, shown, _ = play(events)
    at = len(keys) + len(shown)
    return at if at < len(events) else None


def earliest_run(run):
    """Return the run with these writes and this log in which each send is as early as possible."""
    keys, shown, _ = checked_run(run)
    writes = [("write", key) for key in keys]
    made = 0
    earliest = []
    for number in shown:
        # A send needs the write that it shows, and all that the sends before it need.
        earliest.extend(writes[made:number + 1])
        earliest.append(SEND)
        made = max(made, number + 1)
    return earliest + writes[made:]
