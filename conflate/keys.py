"""Keys, logs, counted logs and runs, and what a log says by itself."""

from conflate.errors import InvalidLog
from conflate.playing import play

LONGEST_KEY = 12


def are_keys(words):
    """Return whether all of these strings are keys."""
    # What the joined words tell is asked once for all of them: long runs and logs are checked often.
    text = " " + " ".join(words)
    if not text.isascii() or text != text.lower() or " _" in text:
        return False
    for word in words:
        # In ASCII, an identifier has letters, digits and `_`, and no digit in front.
        if len(word) > LONGEST_KEY or not word.isidentifier():
            return False
    return True


def is_key(value):
    """Return whether any value is a key."""
    return isinstance(value, str) and are_keys([value])


def is_integer(value):
    """Return whether any value is an integer; True and False are none."""
    return isinstance(value, int) and not isinstance(value, bool)


def is_events(value):
    """Return whether any value is a list of events."""
    if not isinstance(value, list):
        return False
    keys = {}
    for event in value:
        if not isinstance(event, tuple):
            return False
        if len(event) == 2:
            word, key = event
            # Only a string is compared: any other value may define == as it likes.
            if not isinstance(word, str) or word != "write" or not isinstance(key, str):
                return False
            keys[key] = True
        elif len(event) != 1 or not isinstance(event[0], str) or event[0] != "send":
            return False
    return are_keys(keys)


def is_log(value):
    """Return whether any value is a log."""
    if not isinstance(value, list):
        return False
    for part in value:
        if not isinstance(part, str):
            return False
    return are_keys(value)


def counts_in(value):
    """Return a dict from each key of a counted log to its last count, in the order of the first items.

    Return None if the value is not a counted log.
    """
    if not isinstance(value, list):
        return None
    last = {}
    for part in value:
        if not isinstance(part, tuple) or len(part) != 2:
            return None
        key, count = part
        # False is no count either: it is not greater than 0.
        if not isinstance(key, str) or not isinstance(count, int) or count is True:
            return None
        if count <= last.get(key, 0):
            return None
        last[key] = count
    return last if are_keys(last) else None


def is_counted(value):
    """Return whether any value is a counted log."""
    return counts_in(value) is not None


def played(value):
    """Return what playing.play tells of a run, or None if the value is not a run."""
    if not is_events(value):
        return None
    found = play(value)
    # A send that finds the queue empty neither writes nor shows, nor does any event behind it.
    return found if len(found[0]) + len(found[1]) == len(value) else None


def is_run(value):
    """Return whether any value is a run."""
    return played(value) is not None


def check_log(value):
    """Raise InvalidLog unless the value is a log."""
    if not is_log(value):
        raise InvalidLog("not a log: a list of keys")


def checked_counts(value):
    """Return what counts_in tells of a counted log; raise InvalidLog if the value is not one."""
    last = counts_in(value)
    if last is None:
        raise InvalidLog("not a counted log: a list of writes, the counts of each key increasing")
    return last


def keys_of(counted):
    """Return the plain log of a counted log."""
    checked_counts(counted)
    return [key for key, _ in counted]


def last_counts(counted):
    """Return a dict from each key of a counted log to the count of its last item."""
    last = checked_counts(counted)
    return {key: last[key] for key in sorted(last)}


def previous_items(log):
    """Return for each item the number of the last item before it with its key, or None."""
    check_log(log)
    latest = {}
    previous = []
    for item, key in enumerate(log):
        previous.append(latest.get(key))
        latest[key] = item
    return previous


def entries_of(counted):
    """Return the entries of the items of a counted log."""
    last = checked_counts(counted)
    if len(last) == len(counted):
        # No key comes again, so that each one entered with its first write.
        return [(key, 1) for key in last]
    following = {}
    entries = []
    for key, count in counted:
        entries.append((key, following.get(key, 1)))
        following[key] = count + 1
    return entries
