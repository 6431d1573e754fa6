"""Contents that the source of several mirrors had for certain, possibly, or never."""

from conflate.errors import InvalidCut, InvalidMirror, InvalidNumber
from conflate.keys import checked_counts, is_integer
from conflate.mirrors import check_write, checked_logs, consistent_relation, greatest_counts
from conflate.relations import place_from, place_up_to, places_ahead, places_behind


def check_cut(greatest, value):
    """Raise InvalidCut unless the value is a dict from all keys to counts up to the greatest ones."""
    if not isinstance(value, dict) or len(value) != len(greatest):
        raise InvalidCut("not a dict with a count for each key")
    for key, count in value.items():
        if not isinstance(key, str) or key not in greatest:
            raise InvalidCut("not a key of the logs")
        if not is_integer(count) or not 0 <= count <= greatest[key]:
            raise InvalidCut("not a count up to the greatest one of the key")


# Sets of marked writes are integers here, in which bit p stands for the marked write at place p.


def sets_before(marked, steps, ordered):
    """Return for each marked write the set of the marked writes that are before it."""
    before = [0] * len(steps)
    for place in ordered:
        reached = before[place]
        if place < len(marked):
            reached |= 1 << place
        for other in steps[place]:
            before[other] |= reached
    return before[:len(marked)]


def set_of(places):
    """Return the set of the marked writes at these places."""
    found = 0
    for place in places:
        found |= 1 << place
    return found


def own_sets(marked):
    """Return for each key the set of its marked writes."""
    own = {}
    for place, (key, _) in enumerate(marked):
        own[key] = own.get(key, 0) | 1 << place
    return own


def wrong_way(marked, before, cut):
    """Return the least pair of an outer and an inner write that makes a cut impossible, or None."""
    behind = set_of([place for place, (key, count) in enumerate(marked) if count > cut[key]])
    for place, (key, count) in enumerate(marked):
        outer = before[place] & behind
        if count <= cut[key] and outer:
            # The lowest bit stands for the least write.
            return marked[(outer & -outer).bit_length() - 1], marked[place]
    return None


def is_within(found, allowed):
    """Return whether a set is within all of these sets."""
    for other in allowed:
        if found & ~other:
            return False
    return True


def is_fixed(marked, before, greatest, cut):
    """Return whether the last write of each key in the cut is before the first one of each other key behind it."""
    lasts = {}
    firsts = {}
    for place, (key, count) in enumerate(marked):
        # Where these writes are not marked, the next marked ones tell the same.
        if count >= cut[key] > 0:
            lasts.setdefault(key, place)
        if count <= cut[key] + 1:
            firsts[key] = place
    own = own_sets(marked)
    allowed = [before[firsts[key]] | own[key] for key in cut if cut[key] < greatest[key]]
    return is_within(set_of(list(lasts.values())), allowed)


def standing_of(logs, cut):
    """Return whether a cut is "sure", "possible" or "impossible"."""
    greatest = greatest_counts(checked_logs(logs))
    check_cut(greatest, cut)
    marked, steps, ordered = consistent_relation(logs, greatest)
    before = sets_before(marked, steps, ordered)
    if wrong_way(marked, before, cut) is not None:
        return "impossible"
    return "sure" if is_fixed(marked, before, greatest, cut) else "possible"


def why_impossible(logs, cut):
    """Return a write behind the cut and a write in it that it is before, or None if there are none."""
    greatest = greatest_counts(checked_logs(logs))
    check_cut(greatest, cut)
    marked, steps, ordered = consistent_relation(logs, greatest)
    return wrong_way(marked, sets_before(marked, steps, ordered), cut)


def least_cut(logs, write):
    """Return the least cut that is not impossible and has a write in it."""
    greatest = greatest_counts(checked_logs(logs))
    check_write(greatest, write)
    marked, steps, ordered = consistent_relation(logs, greatest)
    ahead = places_ahead(steps, ordered, place_up_to(marked, write))
    cut = {key: 0 for key in sorted(greatest)}
    for place, (key, count) in enumerate(marked):
        if ahead[place]:
            cut[key] = count
    cut[write[0]] = write[1]
    return cut


def greatest_cut(logs, write):
    """Return the greatest cut that is not impossible and has a write behind it."""
    greatest = greatest_counts(checked_logs(logs))
    check_write(greatest, write)
    marked, steps, ordered = consistent_relation(logs, greatest)
    behind = places_behind(steps, ordered, place_from(marked, write))
    cut = {key: greatest[key] for key in sorted(greatest)}
    for place in range(len(marked) - 1, -1, -1):
        key, count = marked[place]
        if behind[place]:
            cut[key] = count - 1
    cut[write[0]] = write[1] - 1
    return cut


def contents_after(counted, items):
    """Return the contents of a mirror after the first so many items of its log."""
    checked_counts(counted)
    if not is_integer(items) or not 0 <= items <= len(counted):
        raise InvalidNumber("not a number of items of the log")
    last = {}
    for key, count in counted[:items]:
        last[key] = count
    return {key: last[key] for key in sorted(last)}


def sure_moments(logs, mirror):
    """Return the numbers of items after which the contents of a mirror are a sure cut."""
    greatest = greatest_counts(checked_logs(logs))
    if not is_integer(mirror) or not 0 <= mirror < len(logs):
        raise InvalidMirror("not the index of a log")
    marked, steps, ordered = consistent_relation(logs, greatest)
    before = sets_before(marked, steps, ordered)
    places = {write: place for place, write in enumerate(marked)}
    own = own_sets(marked)
    last = 0
    allowed = {key: before[places[(key, 1)]] | own[key] for key in greatest}
    moments = [0]
    for item, (key, count) in enumerate(logs[mirror]):
        last = last & ~own[key] | 1 << places[(key, count)]
        if count < greatest[key]:
            allowed[key] = before[places[(key, count + 1)]] | own[key]
        else:
            del allowed[key]
        # A cut that keeps to this is possible: what is in it is before what is behind it.
        if is_within(last, list(allowed.values())):
            moments.append(item + 1)
    return moments
