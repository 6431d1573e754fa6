"""Which writes were certainly before which, by the logs of several mirrors."""

from conflate.errors import InvalidWrite
from conflate.mirrors import (
    check_write, checked_logs, consistent_relation, greatest_counts, in_order, marked_in,
)

# A write that is not marked is directly before and behind writes of its own key only. So what is
# before or behind it is told by the marked writes of its key that are next to it.


def place_from(marked, write):
    """Return the place of the first marked write of the same key that is not before this write."""
    # The last existing write of each key is marked.
    return len([other for other in marked if other < write])


def place_up_to(marked, write):
    """Return the place of the last marked write of the same key that is not behind this write."""
    # The first write of each key is marked.
    return len([other for other in marked if other <= write]) - 1


def places_behind(steps, ordered, start):
    """Return for each place whether the steps lead to it from a start, which counts as well."""
    found = [False] * len(steps)
    found[start] = True
    for place in ordered:
        if found[place]:
            for other in steps[place]:
                found[other] = True
    return found


def places_ahead(steps, ordered, end):
    """Return for each place whether the steps lead from it to an end, which counts as well."""
    found = [False] * len(steps)
    found[end] = True
    for place in reversed(ordered):
        for other in steps[place]:
            if found[other]:
                found[place] = True
    return found


def way_between(steps, start, end):
    """Return a shortest list of places that the steps lead along from a start to an end, or None."""
    origins = {start: start}
    reached = [start]
    looked_at = 0
    while end not in origins and looked_at < len(reached):
        place = reached[looked_at]
        looked_at += 1
        for other in steps[place]:
            if other not in origins:
                origins[other] = place
                reached.append(other)
    if end not in origins:
        return None
    way = [end]
    while way[-1] != start:
        way.append(origins[way[-1]])
    way.reverse()
    return way


def is_before(logs, write, other):
    """Return whether a write was certainly before another one."""
    return path_between(logs, write, other) is not None


def path_between(logs, write, other):
    """Return a list of writes from a write to another one, each directly before the next, or None."""
    greatest = greatest_counts(checked_logs(logs))
    check_write(greatest, write)
    check_write(greatest, other)
    marked, steps, _ = consistent_relation(logs, greatest)
    if write[0] == other[0]:
        return [write, other] if write[1] < other[1] else None
    way = way_between(steps, place_from(marked, write), place_up_to(marked, other))
    if way is None:
        return None
    path = [marked[place] for place in way if place < len(marked)]
    if path[0] != write:
        path.insert(0, write)
    if path[-1] != other:
        path.append(other)
    return path


def check_marked(greatest, marked, value):
    """Raise InvalidWrite unless the value is a marked write."""
    check_write(greatest, value)
    if value not in marked:
        raise InvalidWrite("not a marked write")


def history_with(logs, first, second):
    """Return a history in which one marked write stands before another, or None if there is none."""
    greatest = greatest_counts(checked_logs(logs))
    marked = marked_in(logs, greatest)
    check_marked(greatest, marked, first)
    check_marked(greatest, marked, second)
    if first == second:
        raise InvalidWrite("the same write twice")
    steps = consistent_relation(logs, greatest)[1]
    steps[marked.index(first)].append(marked.index(second))
    ordered = in_order(steps)
    # If the second write is before the first one, the new step makes a ring.
    if len(ordered) < len(steps):
        return None
    return [marked[place] for place in ordered if place < len(marked)]


def unordered_with(logs, write):
    """Return the ascending list of the marked writes that are neither before nor behind a write."""
    greatest = greatest_counts(checked_logs(logs))
    check_write(greatest, write)
    marked, steps, ordered = consistent_relation(logs, greatest)
    behind = places_behind(steps, ordered, place_from(marked, write))
    ahead = places_ahead(steps, ordered, place_up_to(marked, write))
    return [other for place, other in enumerate(marked) if not behind[place] and not ahead[place]]
