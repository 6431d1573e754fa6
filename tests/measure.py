"""Prints how long the functions take for long runs and logs: python3 -m tests.measure

No test: times depend on the machine. The best of many calls is shown, in milliseconds.
"""

import time

from conflate import chains, cuts, given, hub, keys, mirrors, orders, pairs, queues, relations, texts
from tests import sources, test_long
from tests.test_long import KEYS, counted_of


def best_time(function, arguments):
    times = []
    for _ in range(100):
        start = time.perf_counter()
        function(*arguments)
        times.append(time.perf_counter() - start)
    return 1000 * min(times)


def show(function, *arguments):
    print(f"{function.__name__:16} {best_time(function, arguments):8.3f}")


def main():
    print("a run of 1,000 events over 200 keys")
    run = test_long.writes_then_sends()
    for function in (keys.is_run, queues.first_fault, *test_long.OF_A_RUN):
        show(function, run)
    print("a counted log of 200 items over 200 keys")
    counted = counted_of(KEYS, 3)
    for function in (keys.is_counted, *test_long.OF_A_COUNTED_LOG):
        show(function, counted)
    print("a log of 200 items")
    log = ["first"] + KEYS[:199]
    show(keys.previous_items, log)
    show(pairs.sure_counts, log)
    show(pairs.is_sure, log, 0, 199)
    show(pairs.reversed_run, log, 0, 199)
    show(orders.broken_pair, log, list(range(200)))
    show(chains.sure_from, log, 10 ** 30, 0)
    print("a log of 60 items with 8 keys")
    log = [f"k{number % 8}" for number in range(60)]
    show(orders.count_orders, log)
    show(orders.nth_order, log, orders.count_orders(log) - 1)
    print("a chain of 199 runs")
    log = ["b"] + ["a"] * 199
    show(chains.reversed_chain, log, 10 ** 30, 0, 199)
    show(chains.traced, chains.reversed_chain(log, 10 ** 30, 0, 199))
    print("60 writes of 6 keys")
    writes = list("abcdef") * 10
    show(given.count_logs, writes)
    show(given.nth_log, writes, 10 ** 10)
    show(given.log_number, writes, given.nth_log(writes, 10 ** 10))
    show(given.next_items, writes, given.nth_log(writes, 10 ** 10))
    print("20 logs with 200 items")
    _, logs = sources.played_mirrors(1, 20, [f"k{number}" for number in range(10)], 200, 60)
    first, *_, last = mirrors.history_of(logs)
    for function in (mirrors.marked_writes, mirrors.is_consistent, mirrors.history_of):
        show(function, logs)
    show(mirrors.is_history, logs, mirrors.history_of(logs))
    for function in (mirrors.is_direct, relations.is_before, relations.path_between, relations.history_with):
        show(function, logs, first, last)
    show(relations.unordered_with, logs, first)
    show(cuts.standing_of, logs, cuts.least_cut(logs, last))
    show(cuts.why_impossible, logs, cuts.least_cut(logs, last))
    show(cuts.least_cut, logs, last)
    show(cuts.greatest_cut, logs, first)
    show(cuts.sure_moments, logs, 0)
    print("a hub and the texts of a run of 1,000 events")
    show(hub.Hub.from_run, run)
    show(texts.format_run, run)
    show(texts.parse_run, texts.format_run(run))


if __name__ == "__main__":
    main()
