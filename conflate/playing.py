"""Events, and the queue that takes them one by one."""

SEND = ("send",)


class Queue:
    """The waiting keys, the number of writes of each key, and the shown writes."""

    def __init__(self):
        self.waiting = []
        self.counts = {}
        self.shown = []

    def take(self, event):
        if event == SEND:
            self.send()
        else:
            self.write(event[1])

    def write(self, key):
        self.counts[key] = self.counts.get(key, 0) + 1
        if key not in self.waiting:
            self.waiting.append(key)

    def send(self):
        key = self.waiting.pop(0)
        self.shown.append((key, self.counts[key]))

    def present_writes(self):
        return [(key, self.counts[key]) for key in self.waiting]


def played(run):
    """Return the queue as it is after all events of a run."""
    queue = Queue()
    for event in run:
        queue.take(event)
    return queue


def empty_send(events):
    """Return the index of the first send that finds the queue empty, or None."""
    queue = Queue()
    for at, event in enumerate(events):
        if event == SEND and not queue.waiting:
            return at
        queue.take(event)
    return None
