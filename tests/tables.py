"""Histories, rounds, and models of tables, shared by several test files."""

import copy
import random

BEGIN, POLL = ("begin",), ("poll",)
LATE = [BEGIN, BEGIN, ("commit", 0), POLL, ("commit", 1)]
NAMES = ["a", "b", "zz", "reader", "abcdefgh", "zyxwvuts"]


def random_history(source, events):
    """Return a history of so many events; a source of random numbers chooses them."""
    history = []
    begun, open_ids = 0, []
    for _ in range(events):
        if open_ids and source.random() < 0.55:
            row = open_ids.pop(source.randrange(len(open_ids)))
            history.append((source.choice(["commit", "commit", "rollback"]), row))
        else:
            begun += 1
            open_ids.append(begun)
            history.append(BEGIN)
    return history


def random_histories():
    """Return three histories of each length."""
    source = random.Random(14)
    return [random_history(source, events) for events in list(range(61)) * 3]


def some_histories():
    """Return histories of all lengths."""
    full = [BEGIN] * 30 + [("rollback", row) for row in range(1, 31)]
    return [[], [BEGIN], [BEGIN] * 60, full] + random_histories()


class Model:
    """A table that keeps a copy of all it holds ahead of each call."""

    def __init__(self):
        self.many, self.open, self.order, self.events = 0, set(), [], []
        self.got, self.kept = {}, []

    def state(self):
        return copy.deepcopy((self.many, self.open, self.order, self.events, self.got))

    def fork(self):
        other = Model()
        other.many, other.open, other.order, other.events, other.got = self.state()
        other.kept = list(self.kept)
        return other

    def perform(self, event):
        """Perform an event and return what its call returns."""
        word = event[0]
        if word == "poll":
            lists = self.got.setdefault(event[1], [])
            cursor = max([0] + [row for rows in lists for row in rows])
            lists.append(sorted(row for row in self.order if row > cursor))
            return list(lists[-1])
        self.events.append(event)
        if word == "begin":
            self.many += 1
            self.open.add(self.many)
            return self.many
        self.open.remove(event[1])
        if word == "commit":
            self.order.append(event[1])
        return None

    def can(self, event):
        """Return whether any value is an event that can stand here."""
        if type(event) is not tuple or not event or type(event[0]) is not str:
            return False
        if event[0] == "begin":
            return len(event) == 1
        if len(event) != 2:
            return False
        if event[0] == "poll":
            return type(event[1]) is str and 1 <= len(event[1]) <= 8 and all("a" <= letter <= "z" for letter in event[1])
        return event[0] in ("commit", "rollback") and type(event[1]) is int and event[1] in self.open

    def run(self, events):
        """Perform all events as one call."""
        before = self.state()
        results = [self.perform(event) for event in events]
        if events:
            self.kept.append(before)
        return results

    def undo(self):
        self.many, self.open, self.order, self.events, self.got = copy.deepcopy(self.kept.pop())

    def returned(self, name):
        return [row for rows in self.got.get(name, []) for row in rows]

    def equals(self, other):
        if (self.many, self.order, self.open) != (other.many, other.order, other.open):
            return False
        return self.got.keys() == other.got.keys() and all(self.returned(name) == other.returned(name) for name in self.got)


def drawn_event(source, model):
    """Return an event that can stand at the end of a model."""
    kinds = ["poll"] * 3 + ["begin"] * 3 + (["commit"] * 3 + ["rollback"] if model.open else [])
    if len(model.events) >= 60:
        kinds = ["poll"]
    kind = source.choice(kinds)
    if kind == "begin":
        return BEGIN
    if kind == "poll":
        return ("poll", source.choice(NAMES))
    return (kind, source.choice(sorted(model.open)))


def drawn_events(source, model, many):
    """Return so many events that can follow one another at the end of a model."""
    model, events = model.fork(), []
    for _ in range(many):
        events.append(drawn_event(source, model))
        model.perform(events[-1])
    return events


class Table:
    """A table with one plain reader, on which a round is repeated."""

    def __init__(self):
        self.begun, self.cursor = 0, 0
        self.committed, self.returned, self.lists = [], set(), []

    def repeat(self, steps):
        for step in steps:
            if step == BEGIN:
                self.begun += 1
            elif step == POLL:
                rows = sorted(row for row in self.committed if row > self.cursor)
                self.returned.update(rows)
                self.cursor = max([self.cursor] + rows)
                self.lists.append(rows)
            elif self.begun - step[1] >= 1:
                self.committed.append(self.begun - step[1])

    def lost(self):
        return sum(row < self.cursor and row not in self.returned for row in self.committed)


def drawn_round(source):
    """Return a round; a source of random numbers chooses its steps."""
    begins = source.choice([0, 1, 1, 2, 3, 5, 9, source.randint(1, 20)])
    commits = source.choice([0, 1, begins, begins, begins, max(0, begins - 1)])
    steps = [BEGIN] * begins + [("commit", 0)] * min(commits, begins) + [POLL] * source.choice([0, 1, 1, 1, 2, 4])
    source.shuffle(steps)
    steps = steps[:20] or [POLL]
    begins = steps.count(BEGIN)
    greatest = source.choice([0, 2, begins, 2 * begins, 30, 99])
    taken, found, ahead = set(), [], 0
    for step in steps:
        ahead += step == BEGIN
        if step[0] == "commit":
            backs = [back for back in range(min(99, greatest) + 1) if begins and (ahead - back) % begins not in taken]
            if not backs:
                continue
            step = ("commit", source.choice(backs))
            taken.add((ahead - step[1]) % begins)
        found.append(step)
    return found or [POLL]


def some_rounds():
    """Return rounds of all kinds."""
    source = random.Random(70)
    rounds = [
        LATE, [BEGIN], [POLL], [POLL] * 20, [BEGIN] * 20, [BEGIN, ("commit", 0), POLL], [BEGIN, POLL, ("commit", 0)],
        [BEGIN, ("commit", 99), POLL],
        [("commit", 0), BEGIN, POLL], [("commit", 99), POLL, BEGIN], [BEGIN, BEGIN, ("commit", 99), POLL, ("commit", 0)],
        [BEGIN, BEGIN, ("commit", 0), POLL, ("commit", 99)],
        [BEGIN] * 7 + [("commit", back) for back in range(6, -1, -1)],
        [BEGIN] * 9 + [POLL, POLL] + [("commit", 10 * back) for back in range(9)],
        [POLL, BEGIN, BEGIN, ("commit", 1), POLL, POLL],
        [BEGIN, BEGIN, ("commit", 0), ("commit", 1), POLL], [BEGIN, BEGIN, ("commit", 0), POLL, ("commit", 1), POLL],
        [BEGIN, ("commit", 2), POLL],
        [BEGIN] * 2 + [("commit", 98), POLL, ("commit", 97)], [BEGIN, ("commit", 0)], [BEGIN] * 10 + [POLL] * 10,
    ]
    return rounds + [drawn_round(source) for _ in range(250)]


ROUNDS = some_rounds()
