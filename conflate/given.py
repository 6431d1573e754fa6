"""Which logs a given list of writes can produce."""

from conflate.errors import InvalidLog, InvalidNumber, InvalidWrites, TooLarge
from conflate.keys import checked_counts, is_integer, is_log
from conflate.playing import SEND

MOST_WRITES = 60
MOST_KEYS = 6
LETTERS = "abcdef"


def check_writes(value):
    """Raise InvalidWrites unless the value is a list of keys that is not too long."""
    if not is_log(value) or len(value) > MOST_WRITES:
        raise InvalidWrites("not a list of at most 60 keys")


def check_keys(writes):
    """Raise TooLarge if there are too many different keys among the writes."""
    if len(set(writes)) > MOST_KEYS:
        raise TooLarge(MOST_KEYS)


def check_arguments(writes, counted):
    """Raise InvalidWrites, InvalidLog or TooLarge unless these are given writes and a counted log."""
    check_writes(writes)
    checked_counts(counted)
    check_keys(writes)


def ends_of(writes):
    """Return for each key a list: how many writes have been made with its first one, its second one, and so on."""
    ends = {}
    for made, key in enumerate(writes, start=1):
        ends.setdefault(key, []).append(made)
    return ends


def count_up_to(ends, made):
    """Return how many of the writes that end at these numbers are among the first so many writes."""
    return len([end for end in ends if end <= made])


def next_in_turn(writes, made, queue):
    """Return the key that the next send shows and the number of writes it needs at least.

    Return None if no key can come.
    """
    if queue:
        return queue[0], made
    if made < len(writes):
        return writes[made], made + 1
    return None


def follow(writes, counted):
    """Follow a counted log with the earliest run as far as it is a log of these writes.

    Return the number of its items up to there, and the number of writes and the queue behind them.
    """
    ends = ends_of(writes)
    made = 0
    queue = []
    for item, (key, count) in enumerate(counted):
        turn = next_in_turn(writes, made, queue)
        if turn is None or turn[0] != key or not count_up_to(ends[key], turn[1]) <= count <= len(ends[key]):
            return item, made, queue
        sent = max(turn[1], ends[key][count - 1])
        # The key waits first until it is sent, so it does not enter once more.
        for other in writes[made:sent]:
            if other not in queue:
                queue.append(other)
        queue.pop(0)
        made = sent
    return len(counted), made, queue


def state_behind(writes, counted):
    """Return the number of writes and the queue behind a log of these writes; raise InvalidLog if it is none."""
    items, made, queue = follow(writes, counted)
    if items < len(counted):
        raise InvalidLog("not a log of these writes")
    return made, queue


def next_items(writes, counted):
    """Return the writes that the next send can show behind a log of these writes."""
    check_arguments(writes, counted)
    made, queue = state_behind(writes, counted)
    turn = next_in_turn(writes, made, queue)
    if turn is None:
        return []
    key, needed = turn
    ends = ends_of(writes)[key]
    return [(key, count) for count in range(count_up_to(ends, needed), len(ends) + 1)]


def is_log_of(writes, counted):
    """Return whether a counted log is a log of these writes."""
    return first_wrong(writes, counted) is None


def first_wrong(writes, counted):
    """Return the first item that cannot stand there in a log of these writes, or None."""
    check_arguments(writes, counted)
    items = follow(writes, counted)[0]
    return items if items < len(counted) else None


def run_of(writes, counted):
    """Return the run with these writes and this log in which each send is as early as possible."""
    check_arguments(writes, counted)
    state_behind(writes, counted)
    events = [("write", key) for key in writes]
    ends = ends_of(writes)
    run = []
    made = 0
    for key, count in counted:
        sent = max(made, ends[key][count - 1])
        run.extend(events[made:sent])
        run.append(SEND)
        made = sent
    return run + events[made:]


# To count logs, each key is a letter, and the writes and a queue are strings of them. A state is
# the number of writes made and the queue behind them; the next send shows the first key of it, now
# or behind a later write of this key.


def letters_of(writes):
    """Return the writes as a string with one letter for each key, and the keys in the order of the letters."""
    letters = {}
    for key in writes:
        if key not in letters:
            letters[key] = LETTERS[len(letters)]
    return "".join([letters[key] for key in writes]), list(letters)


def waits_of(text, made):
    """Return for each letter that is written later how long its next write is waited for.

    That is the number of writes up to it, and the other letters that are written meanwhile.
    """
    waits = {}
    meanwhile = ""
    for place in range(made, len(text)):
        letter = text[place]
        if letter not in waits:
            waits[letter] = place + 1, meanwhile
            meanwhile += letter
    return waits


def with_entered(queue, letters):
    """Return a queue behind writes of these letters."""
    for letter in letters:
        if letter not in queue:
            queue += letter
    return queue


def states_of(text):
    """Return for each number of writes a dict from each queue that can be there to the next state.

    That is the state behind the next write of the first key of the queue, or of any key if the
    queue is empty; None if there is no such write.
    """
    states = []
    arrived = [{} for _ in range(len(text) + 1)]
    for made in range(len(text) + 1):
        waits = waits_of(text, made)
        later = None
        if made < len(text):
            later = made + 1, text[made]
            arrived[made + 1][text[made]] = True
        laters = {"": later}
        for queue in list(arrived[made]):
            # All ends of a queue that has been looked at have been looked at, too.
            while queue not in laters:
                later = None
                if queue[0] in waits:
                    end, meanwhile = waits[queue[0]]
                    later = end, with_entered(queue, meanwhile)
                    arrived[end][later[1]] = True
                laters[queue] = later
                queue = queue[1:]
        states.append(laters)
    return states


def ways_on(states):
    """Return for each number of writes a dict from each queue to the number of ways to go on by a send or more."""
    ways = [{} for _ in states]
    for made in range(len(states) - 1, -1, -1):
        row = {}
        for queue in sorted(states[made], key=len):
            # Sent now, the first key is the last item, or the rest of the queue goes on.
            many = 1 + row[queue[1:]] if queue else 0
            later = states[made][queue]
            if later is not None:
                many += ways[later[0]][later[1]]
            row[queue] = many
        ways[made] = row
    return ways


def count_logs(writes):
    """Return how many logs these writes have."""
    check_writes(writes)
    check_keys(writes)
    return 1 + ways_on(states_of(letters_of(writes)[0]))[0][""]


def nth_log(writes, number):
    """Return the log of these writes with this number; 0 is the empty one."""
    check_writes(writes)
    check_keys(writes)
    text, keys = letters_of(writes)
    states = states_of(text)
    ways = ways_on(states)
    if not is_integer(number) or not 0 <= number <= ways[0][""]:
        raise InvalidNumber("not the number of a log")
    counted = []
    made, queue = 0, ""
    while number > 0:
        if not queue:
            made, queue = states[made][""]
        here = 1 + ways[made][queue[1:]]
        if number <= here:
            # The log that ends here comes before those that go on.
            number -= 1
            counted.append((keys[LETTERS.index(queue[0])], text.count(queue[0], 0, made)))
            queue = queue[1:]
        else:
            number -= here
            made, queue = states[made][queue]
    return counted


def log_number(writes, counted):
    """Return the number of a log of these writes."""
    check_arguments(writes, counted)
    state_behind(writes, counted)
    text, _ = letters_of(writes)
    states = states_of(text)
    ways = ways_on(states)
    number = 0
    made, queue = 0, ""
    for _, count in counted:
        if not queue:
            made, queue = states[made][""]
        while text.count(queue[0], 0, made) < count:
            number += 1 + ways[made][queue[1:]]
            made, queue = states[made][queue]
        number += 1
        queue = queue[1:]
    return number
