"""Point 4: what the document promises of several modules together."""

import itertools
import random
import unittest

from conflate.chains import is_reversed, is_sure_through, reversed_chain, sure_depth
from conflate.cuts import contents_after, least_cut, standing_of, sure_moments, why_impossible
from conflate.errors import Inconsistent
from conflate.given import first_wrong, is_log_of, next_items, run_of
from conflate.hub import Hub
from conflate.keys import entries_of, keys_of
from conflate.mirrors import history_of, is_consistent, is_direct, is_history, is_ring, marked_writes, ring_in
from conflate.orders import count_orders, is_order, run_for, walk_orders
from conflate.pairs import is_sure, reversed_run, why_sure
from conflate.queues import earliest_run, shown_by, waiting_after, writes_of
from conflate.relations import history_with, is_before, path_between, unordered_with
from conflate.texts import format_run, parse_run
from tests import sources, values
from tests.reference import logs_up_to, order_of
from tests.values import SEND, w


class OneLog(unittest.TestCase):
    def test_a_pair_is_sure_or_a_run_shows_it_the_other_way(self):
        for log in logs_up_to(5):
            for first, second in itertools.permutations(range(len(log)), 2):
                why, run = why_sure(log, first, second), reversed_run(log, first, second)
                self.assertIs(why is None, run is not None)
                if why is not None:
                    self.assertTrue(first <= why[0] < why[1] <= second and log[why[0]] == log[why[1]])
                else:
                    self.assertEqual(keys_of(shown_by(run)), log)
                    self.assertLess(order_of(run).index(second), order_of(run).index(first))

    def test_every_order_is_the_order_of_some_run(self):
        for log in logs_up_to(5):
            found = [order for order in walk_orders(log) if order_of(run_for(log, order)) == order]
            self.assertEqual(len(found), count_orders(log))
            for order in itertools.permutations(range(len(log))):
                self.assertIs(is_order(log, list(order)), list(order) in found)

    def test_one_queue_of_a_chain_tells_the_same(self):
        for log in logs_up_to(5):
            for first, second in itertools.combinations(range(len(log)), 2):
                self.assertIs(is_sure_through(log, 1, first, second), is_sure(log, first, second))
                depth = sure_depth(log, first, second)
                for queues in (1, 2, 3):
                    chain = reversed_chain(log, queues, first, second)
                    self.assertIs(chain is None, depth is None or queues <= depth)
                    self.assertIs(chain is not None, is_reversed(log, queues, first, second, chain))

    def test_what_the_keys_tell_is_told_by_the_writes_too(self):
        for counted in sources.counted_logs({"a": 3, "b": 2}) + sources.counted_logs({"a": 2, "b": 1, "c": 1}):
            for first, second in itertools.combinations(range(len(counted)), 2):
                if is_sure(keys_of(counted), first, second):
                    self.assertIs(is_before([counted], counted[first], counted[second]), True)
                self.assertIs(is_before([counted], entries_of(counted)[first], entries_of(counted)[second]), True)


class GivenWrites(unittest.TestCase):
    def test_each_run_shows_a_log_of_its_writes(self):
        for run, _, shown, _ in values.small_runs()[::2]:
            self.assertIs(is_log_of(writes_of(run), shown), True)
            self.assertEqual(run_of(writes_of(run), shown), earliest_run(run))

    def test_a_wrong_item_is_none_of_the_next_ones(self):
        for counted in sources.counted_logs({"a": 3, "b": 2}):
            writes = ["a", "b", "a", "a", "b"]
            wrong = first_wrong(writes, counted)
            self.assertIs(wrong is None, is_log_of(writes, counted))
            if wrong is not None:
                self.assertNotIn(counted[wrong], next_items(writes, counted[:wrong]))

    def test_a_source_shows_logs_that_go_together(self):
        chance = random.Random(1)
        for keys in ("abab", "abcab", "aabbc", "abcacb"):
            for _ in range(20):
                self.assertIs(is_consistent(sources.mirrors_of(keys, chance, 3)), True)


class SeveralMirrors(unittest.TestCase):
    def test_a_history_or_a_ring(self):
        for logs in sources.small_logs():
            ring = ring_in(logs)
            if ring is None:
                self.assertIs(is_history(logs, history_of(logs)), True)
                continue
            self.assertIs(is_ring(logs, ring), True)
            for call in (history_of, lambda logs: sure_moments(logs, 0)):
                with self.assertRaises(Inconsistent) as caught:
                    call(logs)
                self.assertEqual(caught.exception.ring, ring)

    def test_a_path_or_a_history_the_other_way(self):
        for logs in sources.consistent_logs()[::2]:
            for write, other in itertools.permutations(marked_writes(logs), 2):
                path, history = path_between(logs, write, other), history_with(logs, other, write)
                self.assertIs(path is None, history is not None)
                if path is not None:
                    self.assertTrue(all(is_direct(logs, *pair) for pair in zip(path, path[1:])))
                else:
                    self.assertIs(is_history(logs, history), True)
                    self.assertLess(history.index(other), history.index(write))
                free = path is None and path_between(logs, other, write) is None
                self.assertIs(other in unordered_with(logs, write), free)

    def test_a_reason_why_a_cut_is_impossible(self):
        for logs in sources.consistent_logs()[::2]:
            greatest = sources.greatest_of(logs)
            for counts in itertools.product(*[range(most + 1) for most in greatest.values()]):
                cut = dict(zip(greatest, counts))
                reason = why_impossible(logs, cut)
                self.assertIs(reason is None, standing_of(logs, cut) != "impossible")
                if reason is not None:
                    outer, inner = reason
                    self.assertTrue(outer[1] > cut[outer[0]] and inner[1] <= cut[inner[0]])
                    self.assertIs(is_before(logs, outer, inner), True)


class LiveSource(unittest.TestCase):
    def hub(self, seed, keys, calls):
        """A hub with random writes, mirrors and sends, and the contents of its source behind each write."""
        chance = random.Random(seed)
        hub, contents = Hub(), [{}]
        hub.attach()
        for _ in range(calls):
            mirror = chance.randrange(hub.mirror_count)
            kind = chance.randrange(12)
            if kind == 0 and hub.mirror_count < 6:
                hub.attach()
            elif kind < 6 and hub.waiting_in(mirror):
                hub.send_all(mirror, most=chance.randrange(3))
            else:
                hub.write_key(chance.choice(keys))
                contents.append(hub.contents)
        return hub, contents

    def test_what_its_logs_tell(self):
        for seed in range(25):
            hub, contents = self.hub(seed, "abcdef"[:2 + seed % 5], 120)
            logs = [hub.log_of(mirror) for mirror in range(hub.mirror_count)]
            greatest = sources.greatest_of(logs)
            self.assertIs(is_consistent(logs), True)
            moments = [{key: min(count, moment.get(key, 0)) for key, count in greatest.items()} for moment in contents]
            for mirror, log in enumerate(logs):
                for many in sure_moments(logs, mirror):
                    cut = {**{key: 0 for key in greatest}, **contents_after(log, many)}
                    self.assertIn(cut, moments)
            for moment in moments[::9]:
                self.assertNotEqual(standing_of(logs, moment), "impossible")
            for write in marked_writes(logs)[::9]:
                first = min(at for at, moment in enumerate(moments) if moment[write[0]] >= write[1])
                self.assertTrue(all(count <= moments[first][key] for key, count in least_cut(logs, write).items()))

    def test_each_mirror_is_like_a_run(self):
        for seed in range(25):
            hub, _ = self.hub(50 + seed, "abcd", 55)
            writes = []
            while len(hub):
                before = hub.contents
                hub.undo()
                writes += [key for key in before if before[key] != hub.contents.get(key)]
            hub, _ = self.hub(50 + seed, "abcd", 55)
            writes.reverse()
            self.assertEqual(len(writes), hub.write_count)
            for mirror in range(hub.mirror_count):
                run = run_of(writes, hub.log_of(mirror))
                self.assertEqual([shown_by(run), waiting_after(run)], [hub.log_of(mirror), hub.waiting_in(mirror)])
                twin = Hub.from_run(parse_run(format_run(run)))
                self.assertEqual([twin.log_of(0), twin.waiting_in(0)], [hub.log_of(mirror), hub.waiting_in(mirror)])
                self.assertEqual(twin.contents, hub.contents)


class Results(unittest.TestCase):
    def test_a_run_of_given_writes_is_the_run_of_a_hub(self):
        run = [w("a"), w("b"), w("a"), SEND, SEND, w("b"), SEND]
        hub = Hub.from_run(run)
        self.assertEqual([hub.log_of(0), hub.waiting_in(0)], [shown_by(run), waiting_after(run)])
        self.assertEqual(run_of(writes_of(run), hub.log_of(0)), earliest_run(run))


if __name__ == "__main__":
    unittest.main()
