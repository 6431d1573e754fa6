"""What one log says about two of its items."""

from conflate.errors import InvalidItem
from conflate.keys import check_log, is_integer
from conflate.playing import run_in_order


def check_item(log, value):
    """Raise InvalidItem unless the value is the number of an item of the log."""
    if not is_integer(value) or not 0 <= value < len(log):
        raise InvalidItem("not the number of an item of the log")


def check_pair(log, first, second):
    """Raise InvalidLog or InvalidItem unless these are a log and two different items of it."""
    check_log(log)
    check_item(log, first)
    check_item(log, second)
    if first == second:
        raise InvalidItem("the same item twice")


def reaches_of(log):
    """Return for each item its repeat end, or the number of items if it has none."""
    reach = len(log)
    later = {}
    reaches = []
    for item in range(len(log) - 1, -1, -1):
        key = log[item]
        if key in later and later[key] < reach:
            reach = later[key]
        later[key] = item
        reaches.append(reach)
    reaches.reverse()
    return reaches


def repeat_end(log, item):
    """Return the least item up to which the items from this one on show some key twice, or None."""
    check_log(log)
    check_item(log, item)
    reach = reaches_of(log)[item]
    return reach if reach < len(log) else None


def sure_counts(log):
    """Return for each item how many items are surely before it."""
    check_log(log)
    sure = 0
    behind = {}
    counts = []
    for item, key in enumerate(log):
        # All items up to the previous one with this key are surely before this one.
        if key in behind and behind[key] > sure:
            sure = behind[key]
        behind[key] = item + 1
        counts.append(sure)
    return counts


def is_sure(log, first, second):
    """Return whether item `first` is surely before item `second`."""
    check_pair(log, first, second)
    return reaches_of(log)[first] <= second


def why_sure(log, first, second):
    """Return the earliest repeat between two items, or None if the first is not surely before the second."""
    check_pair(log, first, second)
    reach = reaches_of(log)[first]
    if reach > second:
        return None
    # The items from `first` to the one before the repeat end differ, so this finds the only one.
    return log.index(log[reach], first), reach


def run_with_reversed(log, first, second):
    """Return a run with this log in which the write of `second` is before that of `first`.

    The caller has made sure that `first` is not surely before `second`.
    """
    order = list(range(len(log)))
    if first < second:
        order.insert(first, order.pop(second))
    return run_in_order(log, order)


def reversed_run(log, first, second):
    """Return a run with this log and the two writes in reversed order, or None if there is none."""
    if is_sure(log, first, second):
        return None
    return run_with_reversed(log, first, second)
