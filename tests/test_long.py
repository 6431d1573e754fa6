"""Points 5 to 7 and 13 to 21 for runs of 1,000 events and logs of 200 items."""

import random
import unittest

from conflate.errors import InvalidLog, InvalidRun
from conflate.keys import (
    entries_of, is_counted, is_log, is_run, keys_of, last_counts, previous_items,
)
from conflate.queues import (
    earliest_run, first_fault, hidden_in, shown_by, waiting_after, writes_of,
)
from tests import values
from tests.values import SEND, w

KEYS = [f"key_{number}" for number in range(200)]
OF_A_RUN = (writes_of, shown_by, waiting_after, hidden_in, earliest_run)
OF_A_COUNTED_LOG = (keys_of, last_counts, entries_of)


def mixed_run(seed, keys, sends):
    """A run of 1,000 events over these keys with about so many sends in 100 events."""
    chance = random.Random(seed)
    run, waiting = [], []
    while len(run) < 1000:
        if waiting and chance.randrange(100) < sends:
            waiting.pop(0)
            run.append(SEND)
        else:
            key = chance.choice(keys)
            run.append(w(key))
            if key not in waiting:
                waiting.append(key)
    return run


def writes_then_sends():
    """500 writes, then sends as far as keys wait, then writes again."""
    chance = random.Random(9)
    run = [w(chance.choice(KEYS)) for _ in range(500)]
    run += [SEND] * len(set(run))
    return run + [w(chance.choice(KEYS)) for _ in range(1000 - len(run))]


def long_runs():
    return [
        values.long_run(), writes_then_sends(), mixed_run(1, KEYS, 45), mixed_run(2, KEYS, 20),
        mixed_run(3, list("abcdefgh"), 50), mixed_run(4, ["a" * 12, "z_9"], 60), mixed_run(5, ["a"], 30),
        [w(key) for key in KEYS] * 5, [event for key in KEYS * 3 for event in (w(key), SEND)][:1000],
        [w(key) for key in KEYS] * 4 + [SEND] * 200, [w("a"), SEND] * 500,
        [w(f"k{number}") for number in range(500)] + [SEND] * 500,
    ]


def earliest_by_hand(keys, shown):
    """The earliest run: before each send all writes that it and the sends before it need."""
    run, needed = [], 0
    for key, count in shown:
        number = [at for at, other in enumerate(keys, start=1) if other == key][count - 1]
        run += [w(other) for other in keys[needed:number]] + [SEND]
        needed = max(needed, number)
    return run + [w(other) for other in keys[needed:]]


class Runs(unittest.TestCase):
    def test_right_runs(self):
        for run in long_runs():
            _, shown, waiting, fault = values.played_by_the_book(run)
            self.assertEqual([len(run), fault], [1000, None])
            keys = [event[1] for event in run if event != SEND]
            written = [(key, count) for key in set(keys) for count in range(1, keys.count(key) + 1)]
            self.assertIs(is_run(run), True)
            self.assertIsNone(first_fault(run))
            self.assertEqual(writes_of(run), keys)
            self.assertEqual(shown_by(run), shown)
            self.assertEqual(waiting_after(run), waiting)
            self.assertEqual(hidden_in(run), sorted(set(written) - set(shown) - set(waiting)))
            self.assertEqual(earliest_run(run), earliest_by_hand(keys, shown))

    def check_no_run(self, value):
        self.assertIs(is_run(value), False)
        for function in OF_A_RUN:
            with self.assertRaises(InvalidRun) as caught:
                function(value)
            self.assertIs(type(caught.exception), InvalidRun)

    def test_one_event_that_is_none(self):
        for run in (values.long_run(), writes_then_sends()):
            for place in (0, 499, 999):
                for wrong in values.wrong_events():
                    changed = run[:place] + [wrong] + run[place + 1:]
                    self.check_no_run(changed)
                    with self.assertRaises(InvalidRun):
                        first_fault(changed)

    def test_one_send_too_much(self):
        for run in ([w("a"), SEND] * 499 + [w("a")], [w(key) for key in KEYS] * 3 + [SEND] * 200 + [w("a")] * 199):
            faults = [at for at in range(1000) if values.played_by_the_book(run[:at] + [SEND])[3] == at]
            self.assertIn(0, faults)
            self.assertGreater(len(faults), 1)
            for place in faults[:3] + faults[len(faults) // 2:][:3] + faults[-3:]:
                changed = run[:place] + [SEND] + run[place:]
                self.assertEqual(first_fault(changed), place)
                self.check_no_run(changed)

    def test_one_send_too_much_at_the_end(self):
        run = [w(key) for key in KEYS] * 4 + [SEND] * 199
        self.assertIs(is_run(run + [SEND]), True)
        self.assertEqual(first_fault(run + [SEND] * 2), 1000)
        self.check_no_run(run + [SEND] * 2)

    def test_a_send_too_much_before_an_event_that_is_none(self):
        for wrong in (["send"], ("send", []), ("write", {}), {}, values.Hostile()):
            changed = [SEND] + values.long_run()[1:-1] + [wrong]
            self.check_no_run(changed)
            with self.assertRaises(InvalidRun):
                first_fault(changed)


def counted_of(keys, step):
    """A counted log of these keys in which the counts of each key rise by so much, from that on."""
    counts, counted = {}, []
    for key in keys:
        counts[key] = counts.get(key, 0) + step
        counted.append((key, counts[key]))
    return counted


def long_logs():
    chance = random.Random(6)
    mixed = list(KEYS)
    chance.shuffle(mixed)
    return [
        KEYS, list(reversed(KEYS)), mixed, [chance.choice(KEYS) for _ in range(200)], ["a"] * 200,
        [f"k{number % 8}" for number in range(200)], KEYS[:199] + KEYS[:1], KEYS[:199] + KEYS[198:199],
        [f"{key:_<12}" for key in mixed],
    ]


class Logs(unittest.TestCase):
    def test_right_counted_logs(self):
        for keys in long_logs():
            for step in (1, 7, 10 ** 28):
                counted = counted_of(keys, step)
                befores = [[count for other, count in counted[:at] if other == key] for at, key in enumerate(keys)]
                entries = [(key, max(before, default=0) + 1) for key, before in zip(keys, befores)]
                self.assertIs(is_counted(counted), True)
                self.assertEqual(keys_of(counted), keys)
                self.assertEqual(entries_of(counted), entries)
                last = last_counts(counted)
                self.assertEqual(list(last), sorted(set(keys)))
                for key in last:
                    self.assertEqual(last[key], max(count for other, count in counted if other == key))

    def test_right_logs(self):
        for keys in long_logs():
            befores = [[item for item in range(at) if keys[item] == key] for at, key in enumerate(keys)]
            self.assertIs(is_log(keys), True)
            self.assertEqual(previous_items(keys), [max(before, default=None) for before in befores])

    def check_not_counted(self, value):
        self.assertIs(is_counted(value), False)
        for function in OF_A_COUNTED_LOG:
            with self.assertRaises(InvalidLog) as caught:
                function(value)
            self.assertIs(type(caught.exception), InvalidLog)

    def test_one_item_that_is_no_write(self):
        for counted in (counted_of(KEYS, 1), counted_of(["a"] * 200, 5)):
            for place in (0, 100, 199):
                for wrong in values.wrong_writes():
                    self.check_not_counted(counted[:place] + [wrong] + counted[place + 1:])

    def test_one_count_that_is_not_greater(self):
        for keys in long_logs():
            counted = counted_of(keys, 3)
            for place in [place for place in range(200) if keys[place] in keys[:place]][::20]:
                before = max(count for key, count in counted[:place] if key == keys[place])
                for count in (before, before - 1, 1):
                    self.check_not_counted(counted[:place] + [(keys[place], count)] + counted[place + 1:])

    def test_one_item_that_is_no_key(self):
        for keys in (KEYS, ["a"] * 200):
            for place in (0, 100, 199):
                for wrong in values.wrong_keys():
                    changed = keys[:place] + [wrong] + keys[place + 1:]
                    self.assertIs(is_log(changed), False)
                    with self.assertRaises(InvalidLog) as caught:
                        previous_items(changed)
                    self.assertIs(type(caught.exception), InvalidLog)


if __name__ == "__main__":
    unittest.main()
