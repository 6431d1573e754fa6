"""The orders in which the shown writes of a log can have happened."""

from conflate.errors import InvalidNumber, InvalidOrder, TooLarge
from conflate.keys import check_log, is_integer
from conflate.pairs import reaches_of
from conflate.playing import run_in_order

MOST_ITEMS = 60
MOST_KEYS = 8


def places_in(value, many):
    """Return the place of each item in a list of so many items, each once; None if it is no such list."""
    if not isinstance(value, list) or len(value) != many:
        return None
    places = [None] * many
    for place, item in enumerate(value):
        if not is_integer(item) or not 0 <= item < many or places[item] is not None:
            return None
        places[item] = place
    return places


def soonest_places(places):
    """Return for each item, and behind them all, the least place of the items from it on."""
    soonest = [len(places)]
    for place in reversed(places):
        soonest.append(min(place, soonest[-1]))
    soonest.reverse()
    return soonest


def first_broken(log, places):
    """Return the least pair of items in a sure order whose places are the other way round, or None."""
    soonest = soonest_places(places)
    for first, reach in enumerate(reaches_of(log)):
        if soonest[reach] < places[first]:
            return first, min([item for item in range(reach, len(log)) if places[item] < places[first]])
    return None


def places_in_order(log, value):
    """Return the place of each item in an order of the log, or None if the value is not one."""
    places = places_in(value, len(log))
    if places is None or first_broken(log, places) is not None:
        return None
    return places


def is_order(log, value):
    """Return whether any value is an order of the log."""
    check_log(log)
    return places_in_order(log, value) is not None


def broken_pair(log, order):
    """Return the least pair of items that the list puts against their sure order, or None."""
    check_log(log)
    places = places_in(order, len(log))
    if places is None:
        raise InvalidOrder("not a list of all item numbers, each once")
    return first_broken(log, places)


def checked_places(log, order):
    """Return the place of each item in an order; raise InvalidLog or InvalidOrder if it is not one."""
    check_log(log)
    places = places_in_order(log, order)
    if places is None:
        raise InvalidOrder("not an order of the log")
    return places


def fewest_hidden(log, order):
    """Return the least number of hidden writes of a run with this log and this order."""
    places = checked_places(log, order)
    soonest = soonest_places(places)
    return len([item for item, place in enumerate(places) if soonest[item + 1] < place])


def run_for(log, order):
    """Return a run with this log and this order that has as few hidden writes as possible."""
    checked_places(log, order)
    return run_in_order(log, order)


def check_size(log):
    """Raise TooLarge if the log has too many items or keys for its orders to be counted."""
    if len(log) > MOST_ITEMS:
        raise TooLarge(MOST_ITEMS)
    if len(set(log)) > MOST_KEYS:
        raise TooLarge(MOST_KEYS)


# The items that an order has so far are told by two numbers: `least`, the least item that is
# missing, and `beyond`, in which bit b is set if item least + 1 + b is there. Only items below
# the reach of `least` can be there, so `beyond` has fewer bits than the log has keys.


def step_to(least, beyond, item):
    """Return `least` and `beyond` after one more item."""
    if item > least:
        return least, beyond | 1 << (item - least - 1)
    # The items that follow the new one without a gap are passed over, too.
    passed = (~beyond & (beyond + 1)).bit_length()
    return least + passed, beyond >> passed


def next_choices(reaches, least, beyond):
    """Return the items that can come next, in ascending order."""
    missing = [item for item in range(least + 1, reaches[least]) if not beyond >> (item - least - 1) & 1]
    return [least] + missing


def ways_on(reaches):
    """Return for each `least` a list that has for each `beyond` in how many ways an order goes on."""
    ways = [[] for _ in reaches] + [[1]]
    for least in range(len(reaches) - 1, -1, -1):
        bits = [1 << bit for bit in range(reaches[least] - least - 1)]
        row = [0] * (1 << len(bits))
        for beyond in range(len(row) - 1, -1, -1):
            after, rest = step_to(least, beyond, least)
            many = ways[after][rest]
            for bit in bits:
                if not beyond & bit:
                    many += row[beyond | bit]
            row[beyond] = many
        ways[least] = row
    return ways


def count_orders(log):
    """Return how many orders a log has."""
    check_log(log)
    check_size(log)
    return ways_on(reaches_of(log))[0][0]


def nth_order(log, number):
    """Return the order with this number; 0 is the least one."""
    check_log(log)
    check_size(log)
    reaches = reaches_of(log)
    ways = ways_on(reaches)
    if not is_integer(number) or not 0 <= number < ways[0][0]:
        raise InvalidNumber("not the number of an order")
    order = []
    least, beyond = 0, 0
    while len(order) < len(log):
        for item in next_choices(reaches, least, beyond):
            after, rest = step_to(least, beyond, item)
            if number < ways[after][rest]:
                break
            number -= ways[after][rest]
        order.append(item)
        least, beyond = after, rest
    return order


def order_number(log, order):
    """Return the number of an order."""
    checked_places(log, order)
    check_size(log)
    reaches = reaches_of(log)
    ways = ways_on(reaches)
    number = 0
    least, beyond = 0, 0
    for item in order:
        for other in next_choices(reaches, least, beyond):
            if other == item:
                break
            after, rest = step_to(least, beyond, other)
            number += ways[after][rest]
        least, beyond = step_to(least, beyond, item)
    return number


def next_order(reaches, order):
    """Return the order that follows this one, or None if it is the last."""
    behind = set()
    least = len(order)
    for place in range(len(order) - 1, -1, -1):
        item = order[place]
        least = min(least, item)
        for other in range(item + 1, reaches[least]):
            if other in behind:
                rest = [following for following in order[place:] if following != other]
                return order[:place] + [other] + sorted(rest)
        behind.add(item)
    return None


def walk_orders(log):
    """Yield all orders of a log in ascending order, each as a new list."""
    check_log(log)
    reaches = reaches_of(log)
    order = list(range(len(log)))
    # The log is not kept from one order to the next; the caller may change it meanwhile.
    del log
    while order is not None:
        yield list(order)
        order = next_order(reaches, order)
