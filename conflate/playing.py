"""Runs: what they write and show, and how a log gets one."""

SEND = ("send",)


def play(events):
    """Play events up to the first send that finds the queue empty.

    Return the written keys, the numbers of the writes that the sends show, and the numbers of
    the writes that wait at the end, in the order of the queue.
    """
    keys = []
    shown = []
    entered = []
    # A dict is such a queue: a new value of a key keeps the place that the key has.
    waiting = {}
    for event in events:
        if len(event) == 2:
            key = event[1]
            if key not in waiting:
                entered.append(key)
            waiting[key] = len(keys)
            keys.append(key)
        elif waiting:
            shown.append(waiting.pop(entered[len(shown)]))
        else:
            break
    return keys, shown, list(waiting.values())


def written_keys(events):
    """Return the keys that the events write, in order."""
    return [event[1] for event in events if len(event) == 2]


def run_in_order(log, order):
    """Return the run with this log whose shown writes happen in this order, with few hidden writes."""
    writes = [("write", key) for key in log]
    run = []
    written = [False] * len(log)
    entered = 0
    sent = 0
    for item in order:
        # Keys enter in the order of the log: those still missing are written now and once more later.
        run.extend(writes[entered:item])
        run.append(writes[item])
        entered = max(entered, item + 1)
        written[item] = True
        # Sent at once, an item has left the queue before its key is written for a later item.
        while sent < entered and written[sent]:
            run.append(SEND)
            sent += 1
    return run
