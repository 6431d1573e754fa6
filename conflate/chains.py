"""Chains of queues, and what a log at their end says about two of its items."""

from conflate.errors import InvalidChain, InvalidItem, InvalidNumber
from conflate.keys import check_log, is_integer, played
from conflate.pairs import check_item, reaches_of, run_with_reversed
from conflate.playing import run_in_order, written_keys

MOST_QUEUES = 10 ** 30


def follow(value):
    """Return the log of a chain and the index of the source's write that each item shows.

    Return None if the value is not a chain.
    """
    if not isinstance(value, list) or not value:
        return None
    log = None
    places = []
    for run in value:
        found = played(run)
        if found is None:
            return None
        keys, shown, _ = found
        if log is None:
            places = shown
        elif keys == log:
            places = [places[number] for number in shown]
        else:
            return None
        log = [keys[number] for number in shown]
    return log, places


def is_chain(value):
    """Return whether any value is a chain."""
    return follow(value) is not None


def traced(chain):
    """Return for each item of the log of a chain the index of the source's write that it shows."""
    found = follow(chain)
    if found is None:
        raise InvalidChain("not a chain: runs of which each writes what the one before it shows")
    return found[1]


def check_later_pair(log, first, second):
    """Raise InvalidLog or InvalidItem unless these are a log, an item of it and a later one."""
    check_log(log)
    check_item(log, first)
    check_item(log, second)
    if second <= first:
        raise InvalidItem("the second item is not a later one")


def check_queues(value):
    """Raise InvalidNumber unless the value can be a number of queues."""
    if not is_integer(value) or not 1 <= value <= MOST_QUEUES:
        raise InvalidNumber("not a number of queues")


def next_with_key(log, first):
    """Return the next item with the same key, or the number of items if there is none."""
    for item in range(first + 1, len(log)):
        if log[item] == log[first]:
            return item
    return len(log)


def sure_start(log, queues, first):
    """Return the least item that `first` is surely before, or the number of items if there is none."""
    reaches = reaches_of(log)
    item = first
    left = queues
    # Each step leads to a later item, so this ends soon however many queues there are.
    while left > 0 and item < len(log):
        item = reaches[item]
        left -= 1
    return min(item, next_with_key(log, first))


def is_sure_through(log, queues, first, second):
    """Return whether item `first` is surely before item `second` through so many queues."""
    check_later_pair(log, first, second)
    check_queues(queues)
    return sure_start(log, queues, first) <= second


def sure_from(log, queues, first):
    """Return the least item that item `first` is surely before through so many queues, or None."""
    check_log(log)
    check_item(log, first)
    check_queues(queues)
    start = sure_start(log, queues, first)
    return start if start < len(log) else None


def sure_depth(log, first, second):
    """Return the greatest number of queues through which `first` is surely before `second`.

    Return None if it is so through any number of queues.
    """
    check_later_pair(log, first, second)
    if next_with_key(log, first) <= second:
        return None
    reaches = reaches_of(log)
    depth = 0
    item = reaches[first]
    while item <= second:
        depth += 1
        item = reaches[item]
    return depth


def delaying_run(log, first, reach):
    """Return a run with this log in which the write of `first` is the last one before that of `reach`."""
    order = list(range(len(log)))
    order.insert(reach - 1, order.pop(first))
    return run_in_order(log, order)


def reversed_chain(log, queues, first, second):
    """Return a chain with this log whose source writes `second` before `first`, or None."""
    if is_sure_through(log, queues, first, second):
        return None
    keys = log
    runs = []
    reach = reaches_of(keys)[first]
    while reach <= second:
        # The write of `first` is moved to the item that it is surely before. What this run
        # writes is the log of the run before it, with one step less from `first` to `second`,
        # and, by the key's earlier write, one item more.
        runs.append(delaying_run(keys, first, reach))
        keys = written_keys(runs[-1])
        first, second = reach, second + 1
        reach = reaches_of(keys)[first]
    runs.append(run_with_reversed(keys, first, second))
    runs.reverse()
    return runs


def is_reversed(log, queues, first, second, value):
    """Return whether any value is such a chain as reversed_chain returns, of at most so many runs."""
    check_later_pair(log, first, second)
    check_queues(queues)
    found = follow(value)
    if found is None or len(value) > queues:
        return False
    shown, places = found
    return shown == log and places[second] < places[first]
