"""Simple calculations that follow the words of the document, slow and plain, for short values."""

import functools
import itertools

from tests.values import SEND, played_by_the_book, w


def all_logs(length):
    """All logs of so many items, but for the names of their keys: a new key is the next letter."""
    logs = [""]
    for _ in range(length):
        logs = [log + key for log in logs for key in "abcdefgh"[:len(set(log)) + 1]]
    return [list(log) for log in logs]


def logs_up_to(length):
    return [log for many in range(length + 1) for log in all_logs(many)]


def surely_before(log, first, second):
    """Point 8: some key stands twice among the items from the first to the second."""
    part = log[first:second + 1]
    return first < second and len(set(part)) < len(part)


def end_of_repeat(log, item):
    """Point 9: the least item such that some key stands twice among the items up to it."""
    for last in range(item, len(log)):
        if surely_before(log, item, last):
            return last
    return None


def surely_through(log, queues, first, second):
    """Point 9: the key again, or so many steps to the repeat end."""
    if log[first] in log[first + 1:second + 1]:
        return True
    item = first
    # As many steps as there are items lead from no item to another one.
    for _ in range(min(queues, len(log))):
        item = end_of_repeat(log, item)
        if item is None or item > second:
            return False
    return True


def keeps_the_log(log, order):
    """Point 8: each item stands before those that it is surely before."""
    places = {item: place for place, item in enumerate(order)}
    return all(
        places[first] < places[second]
        for first, second in itertools.combinations(range(len(log)), 2)
        if surely_before(log, first, second)
    )


def all_orders(log):
    """All orders of a log, ascending, each permutation tried."""
    items = range(len(log))
    return [list(order) for order in itertools.permutations(items) if keeps_the_log(log, order)]


def played_orders(log):
    """All orders in which runs with this log write what they show, each with the fewest hidden writes.

    A state of a run is told by how many items have entered the queue and how many have been
    shown, and by the items in the order of their last writes. With each further hidden write all
    states that can be reached are played event by event.
    """
    best, seen, states, hidden = {}, set(), {(0, 0, ())}, 0
    while states:
        later, states = set(), list(states)
        for entered, sent, happened in states:
            if (entered, sent, happened) in seen:
                continue
            seen.add((entered, sent, happened))
            if sent == len(log):
                best.setdefault(happened, hidden)
            if sent < entered:
                states.append((entered, sent + 1, happened))
            if entered < len(log) and log[entered] not in log[sent:entered]:
                states.append((entered + 1, sent, happened + (entered,)))
            for item in range(sent, entered):
                again = tuple(other for other in happened if other != item) + (item,)
                later.add((entered, sent, again))
        states, hidden = later, hidden + 1
    return best


def places_of_shown(run):
    """For each item that a run shows the number of the write that it shows; None if it is no run."""
    _, shown, _, fault = played_by_the_book(run)
    if fault is not None:
        return None
    writes = [event[1] for event in run if event != SEND]
    numbers = {}
    for number, key in enumerate(writes):
        numbers[(key, writes[:number + 1].count(key))] = number
    return [numbers[write] for write in shown]


def order_of(run):
    """The items of the log of a run in the order in which their writes happen."""
    places = places_of_shown(run)
    return sorted(range(len(places)), key=lambda item: places[item])


def log_of(run):
    return [key for key, _ in played_by_the_book(run)[1]]


def hidden_of(run):
    """How many writes a run hides."""
    _, shown, waiting, _ = played_by_the_book(run)
    return len([event for event in run if event != SEND]) - len(shown) - len(waiting)


def traced_by_hand(chain):
    """For each item of the log of a chain the number of the source's write; None if it is no chain."""
    found = None
    for at, run in enumerate(chain):
        places = places_of_shown(run)
        if places is None:
            return None
        if at > 0 and [event[1] for event in run if event != SEND] != log_of(chain[at - 1]):
            return None
        found = places if found is None else [found[place] for place in places]
    return found


def check_reversed(test, log, queues, first, second, chain):
    """Fail unless this is a chain as reversed_chain shall return it."""
    test.assertIs(type(chain), list)
    test.assertTrue(1 <= len(chain) <= min(queues, len(log)), (log, queues, len(chain)))
    places = traced_by_hand(chain)
    test.assertIsNotNone(places)
    test.assertEqual(log_of(chain[-1]), log)
    test.assertLess(places[second], places[first])


@functools.cache
def runs_with(log, hidden):
    """What runs with this log write that hide at most so many writes and leave nothing waiting.

    The log and the results are tuples: of each run the written keys, and for each item the number
    of the write that it shows.
    """
    found = set()
    states = [((), ())]
    for _ in range(len(log) + hidden):
        states = [(writes + (key,), events + (w(key),)) for writes, events in states for key in sorted(set(log))]
        states = [state for writes, events in states for state in with_sends(log, writes, events)]
        for writes, events in states:
            if log_of(events) == list(log) and not played_by_the_book(events)[2]:
                found.add((writes, tuple(places_of_shown(events))))
    return found


def with_sends(log, writes, events):
    """The run, and the ones with sends behind it, that can still come to show exactly this log."""
    kept = []
    while played_by_the_book(events)[3] is None:
        shown = log_of(events)
        waiting = [key for key, _ in played_by_the_book(events)[2]]
        if (shown + waiting) != list(log)[:len(shown) + len(waiting)]:
            break
        kept.append((writes, events))
        events = events + (SEND,)
    return kept


def can_reverse(log, queues, first, second, hidden):
    """Whether chains of so many runs, each hiding at most so many writes, put the second item first."""
    for writes, places in runs_with(tuple(log), hidden):
        if places[second] < places[first]:
            return True
        if queues > 1 and can_reverse(writes, queues - 1, places[first], places[second], hidden):
            return True
    return False
