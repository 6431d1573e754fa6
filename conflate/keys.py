"""Keys, logs, counted logs and runs, and what a log says by itself."""

from conflate.errors import InvalidLog
from conflate.playing import play

LONGEST_KEY = 12
FIRST_SIGNS = "abcdefghijklmnopqrstuvwxyz"
KEY_SIGNS = "abcdefghijklmnopqrstuvwxyz0123456789_"


def is_key(value):
    """Return whether any value is a key."""
    if not isinstance(value, str) or not 1 <= len(value) <= LONGEST_KEY:
        return False
    return value[0] in FIRST_SIGNS and all([sign in KEY_SIGNS for sign in value])


def is_integer(value):
    """Return whether any value is an integer; True and False are none."""
    return isinstance(value, int) and not isinstance(value, bool)


def is_write(value):
    """Return whether any value is a write: a key and a count from 1 on."""
    if not isinstance(value, tuple) or len(value) != 2:
        return False
    return is_key(value[0]) and is_integer(value[1]) and value[1] >= 1


def is_event(value):
    """Return whether any value is an event."""
    if not isinstance(value, tuple) or len(value) not in (1, 2):
        return False
    # Only a string is compared: any other value may define == as it likes.
    if not isinstance(value[0], str):
        return False
    if len(value) == 1:
        return value[0] == "send"
    return value[0] == "write" and is_key(value[1])


def is_events(value):
    """Return whether any value is a list of events."""
    return isinstance(value, list) and all([is_event(part) for part in value])


def is_log(value):
    """Return whether any value is a log."""
    return isinstance(value, list) and all([is_key(part) for part in value])


def is_counted(value):
    """Return whether any value is a counted log."""
    if not isinstance(value, list) or not all([is_write(part) for part in value]):
        return False
    last = {}
    for key, count in value:
        if count <= last.get(key, 0):
            return False
        last[key] = count
    return True


def played(value):
    """Return what playing.play tells of a run, or None if the value is not a run."""
    if not is_events(value):
        return None
    found = play(value)
    # A send that finds the queue empty neither writes nor shows, nor does any event behind it.
    return found if len(found[0]) + len(found[1]) == len(value) else None


def is_run(value):
    """Return whether any value is a run."""
    return played(value) is not None


def check_log(value):
    """Raise InvalidLog unless the value is a log."""
    if not is_log(value):
        raise InvalidLog("not a log: a list of keys")


def check_counted(value):
    """Raise InvalidLog unless the value is a counted log."""
    if not is_counted(value):
        raise InvalidLog("not a counted log: a list of writes, the counts of each key increasing")


def keys_of(counted):
    """Return the plain log of a counted log."""
    check_counted(counted)
    return [key for key, _ in counted]


def last_counts(counted):
    """Return a dict from each key of a counted log to the count of its last item."""
    check_counted(counted)
    last = {}
    for key, count in counted:
        last[key] = count
    return {key: last[key] for key in sorted(last)}


def previous_items(log):
    """Return for each item the number of the last item before it with its key, or None."""
    check_log(log)
    latest = {}
    previous = []
    for item, key in enumerate(log):
        previous.append(latest.get(key))
        latest[key] = item
    return previous


def entries_of(counted):
    """Return the entries of the items of a counted log."""
    check_counted(counted)
    last = {}
    entries = []
    for key, count in counted:
        entries.append((key, last.get(key, 0) + 1))
        last[key] = count
    return entries
