"""Sources and mirrors, slow and plain: all runs of given writes, all sources that show given logs."""

import functools
import itertools
import random

from tests.values import SEND, w


@functools.cache
def runs_of_writes(keys):
    """All runs with exactly these writes, played event by event: for each counted log its runs."""
    found = {}
    states = [((), (), ())]
    for at in range(len(keys) + 1):
        states = [later for state in states for later in with_sends_played(keys[:at], *state)]
        if at < len(keys):
            states = [
                (run + (w(keys[at]),), queue + (keys[at],) * (keys[at] not in queue), shown)
                for run, queue, shown in states
            ]
    for run, _, shown in states:
        found.setdefault(shown, []).append(list(run))
    return found


def with_sends_played(written, run, queue, shown):
    """The state, and the ones behind one send and more."""
    states = [(run, queue, shown)]
    while queue:
        run = run + (SEND,)
        shown = shown + ((queue[0], written.count(queue[0])),)
        queue = queue[1:]
        states.append((run, queue, shown))
    return states


def logs_of_writes(keys):
    """All counted logs of runs with exactly these writes, ascending."""
    return sorted(list(shown) for shown in runs_of_writes(tuple(keys)))


def greatest_of(logs):
    greatest = {}
    for key, count in itertools.chain.from_iterable(logs):
        greatest[key] = max(count, greatest.get(key, 0))
    return dict(sorted(greatest.items()))


def existing(logs):
    """All writes that exist, ascending."""
    return [(key, count) for key, most in greatest_of(logs).items() for count in range(1, most + 1)]


def entries_by_hand(log):
    """Point 7: the write with a count greater by 1 than the one of the previous item."""
    entries = []
    for item, (key, _) in enumerate(log):
        before = [count for other, count in log[:item] if other == key]
        entries.append((key, before[-1] + 1 if before else 1))
    return entries


def follower(write):
    return write[0], write[1] + 1


def marked_by_hand(logs):
    """Point 10: shown writes, entries, and the writes that follow shown ones."""
    marked = set()
    for log in logs:
        marked |= set(log) | set(entries_by_hand(log)) | {follower(write) for write in log}
    return sorted(marked & set(existing(logs)))


def last_shown_count(log, key):
    return max([count for other, count in log if other == key], default=0)


def direct_by_hand(logs, first, second):
    """Point 11: the four conditions."""
    if first not in existing(logs) or second not in existing(logs):
        return False
    if first[0] == second[0] and first[1] < second[1]:
        return True
    for log in logs:
        entries = entries_by_hand(log)
        items = range(len(log))
        if any(entries[j] == first and entries[m] == second for j in items for m in items if j < m):
            return True
        if any(log[j] == first and follower(log[m]) == second for j in items for m in items if j <= m):
            return True
        if entries[-1:] == [first] and second[1] == last_shown_count(log, second[0]) + 1:
            return True
    return False


def sources_of(logs):
    """All lists of the existing writes that let a queue for each log show it."""
    return list(found_sources(tuple(tuple(log) for log in logs)))


@functools.cache
def found_sources(logs):
    words = set(itertools.permutations([key for key, _ in existing(logs)]))
    found = []
    for word in sorted(words):
        if all(log in runs_of_writes(word) for log in logs):
            found.append([(key, word[:at + 1].count(key)) for at, key in enumerate(word)])
    return tuple(found)


def histories_of(logs):
    """The marked writes in all orders in which sources of these logs write them."""
    marked = marked_by_hand(logs)
    found = {tuple(write for write in source if write in marked) for source in sources_of(logs)}
    return sorted(list(history) for history in found)


def always_before(logs, first, second):
    """Whether a write is before another one in every source."""
    return all(source.index(first) < source.index(second) for source in sources_of(logs))


def contents_of(logs):
    """For each source the contents at every moment."""
    found = []
    for source in sources_of(logs):
        moments = []
        for many in range(len(source) + 1):
            moment = {key: 0 for key in greatest_of(logs)}
            moment.update(dict(source[:many]))
            moments.append(moment)
        found.append(moments)
    return found


def counted_logs(greatest):
    """All counted logs with counts up to these ones."""
    chosen = []
    for key, most in greatest.items():
        chosen.append([
            counts for many in range(most + 1) for counts in itertools.combinations(range(1, most + 1), many)
        ])
    found = []
    for counts in itertools.product(*chosen):
        by_key = dict(zip(greatest, counts))
        words = set(itertools.permutations([key for key, listed in by_key.items() for _ in listed]))
        for word in sorted(words):
            places = [word[:at].count(key) for at, key in enumerate(word)]
            found.append([(key, by_key[key][place]) for key, place in zip(word, places)])
    return found


def first_words(length, keys):
    """All words of so many letters, but for the names of the letters: a new one is the next of these."""
    words = [""]
    for _ in range(length):
        words = [word + key for word in words for key in keys[:len(set(word)) + 1]]
    return words


def mirrors_of(keys, chance, many):
    """So many logs of one source with these writes."""
    logs = logs_of_writes(keys)
    return [chance.choice(logs) for _ in range(many)]


@functools.cache
def small_logs():
    """Lists of logs for which all sources can be tried, with and without sources that show them."""
    chance = random.Random(11)
    logs = counted_logs({"a": 2, "b": 2})
    found = [[log] for log in counted_logs({"a": 3, "b": 2})] + [[log] for log in counted_logs({"a": 1, "b": 1, "c": 1})]
    found += [list(pair) for pair in itertools.combinations_with_replacement(logs, 2)]
    found += [[chance.choice(logs) for _ in range(3)] for _ in range(100)]
    for keys in ["abab", "abba", "aabb", "abcab", "abcba", "aabbc", "acbbca", "abcabc", "aaaab", "abaabb", "ababab"]:
        found += [mirrors_of(keys, chance, many) for many in (1, 2, 2, 2, 2, 3, 3, 3, 3, 4)]
    return found


def consistent_logs():
    return [logs for logs in small_logs() if sources_of(logs)]


def inconsistent_logs():
    return [logs for logs in small_logs() if not sources_of(logs)]


def played_mirrors(seed, mirrors, keys, items, sends):
    """A source and the logs of its mirrors: random writes, and sends until so many items are shown."""
    chance = random.Random(seed)
    writes, queues, logs = [], [[] for _ in range(mirrors)], [[] for _ in range(mirrors)]
    while sum(len(log) for log in logs) < items:
        mirror = chance.randrange(mirrors)
        if queues[mirror] and chance.randrange(100) < sends:
            key = queues[mirror].pop(0)
            logs[mirror].append((key, writes.count(key)))
        else:
            key = chance.choice(keys)
            writes.append(key)
            for queue in queues:
                if key not in queue:
                    queue.append(key)
    return [(key, writes[:at + 1].count(key)) for at, key in enumerate(writes)], logs
