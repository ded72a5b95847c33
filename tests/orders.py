"""Orders, polls and readers that several test files share."""

import itertools
import random

from samples import NO_INTEGERS, NO_LISTS, Equal, Odd

GREATEST = 10 ** 30
EXAMPLE = [2, 1, 4, 5, 3, 7, 6]


def some_orders():
    """Return orders of all lengths, ascending, nearly ascending, descending and mixed."""
    source = random.Random(17)
    orders = [[], [1], [GREATEST], EXAMPLE, [GREATEST, 1], [1, GREATEST], [GREATEST, GREATEST - 1, GREATEST - 2]]
    for many in range(2, 31):
        ascending = list(range(1, many + 1))
        nearly = list(ascending)
        for _ in range(many // 3):
            at = source.randrange(many - 1)
            nearly[at], nearly[at + 1] = nearly[at + 1], nearly[at]
        mixed = source.sample(ascending, many)
        great = [source.randint(1, GREATEST) for _ in range(many)]
        orders += [ascending, nearly, ascending[::-1], mixed, great, sorted(great), [ascending[-1]] + ascending[:-1]]
    return orders


def small_orders():
    """Return the orders of all sets of at most four ids up to five, and of six ids."""
    short = [list(ids) for many in range(5) for ids in itertools.permutations([1, 2, 3, 4, 5], many)]
    return short + [list(ids) for ids in itertools.permutations([1, 3, 4, 7, 8, GREATEST])]


ALL_ORDERS = some_orders() + small_orders()

WRONG_ORDERS = NO_LISTS + [
    [0], [-1], [GREATEST + 1], [-GREATEST], [1, 0], [2, 1, -3], [1, GREATEST + 1], [10 ** 40],
    [1, 1], [2, 1, 2], [GREATEST, 5, GREATEST], [3, 3, 3],
    list(range(1, 32)), list(range(31, 0, -1)), list(range(1, 31)) + [1], [1] * 31, list(range(0, 31)),
    (1, 2), (), ((1, 2),), [[1, 2]], [[]], [(1,)], [1, [2]], [1, (2,)], [Odd(), Odd()], [Odd(), 1], [1, Odd()],
    [Equal()], [1, Equal()], ["1", "2"], [1, "2"], [1.0, 2.0], [1, 2.0], [True, 2], [2, True], [1, True], [True], [False],
    {1: 2, 2: 1}, {2, 1},
] + [[value] for value in NO_INTEGERS] + [[5, 4, value] for value in NO_INTEGERS]


def wrong_polls(order):
    """Return values that are no polls of an order."""
    many = len(order)
    numbers = [-1, -many - 1, many + 1, 31, GREATEST, -GREATEST, 10 ** 40]
    lists = [[number] for number in numbers] + [[0, number] for number in numbers] + [[number, many] for number in numbers]
    lists += [[value] for value in NO_INTEGERS] + [[0, value] for value in NO_INTEGERS]
    lists += [[0] * 31, [many] * 31, [0, [0]], [0, (0,)], [[0], 0], [[[]]], [Odd(), Odd()], [Equal(), 0], ["0", "0"]]
    lists += [[0, True], [False, 0], [0.0, 0], (0,), (0, many), [0] * 30 + [None], {0: 0}]
    if many > 0:
        lists += [[1, 0], [many, many - 1], [0, many, 0], [many, 0], [0] * 28 + [1, 0], list(range(many, -1, -1))]
    if many >= 30:
        lists.append(list(range(31)))
    return NO_LISTS + lists


def drawn_polls(source, order):
    """Return polls of an order: none, one, several at one moment, thirty; a source of random numbers chooses them."""
    many = len(order)
    moments = list(range(many + 1))
    one = source.choice(moments)
    lists = [[], [0], [many], [one], [one, one, one], [0, 0, many, many], moments[1:], moments[:30], [one] * 30]
    for count in [2, 3, many // 2, many, 30]:
        drawn = sorted([source.choice(moments) for _ in range(count)])
        lists += [drawn, drawn[:29] + [many]]
    return lists


def all_polls(many, most):
    """Return all lists of at most so many moments of an order of so many ids."""
    moments = range(many + 1)
    return [list(polls) for count in range(most + 1)
            for polls in itertools.combinations_with_replacement(moments, count)]


def all_sets(values):
    """Return all ascending lists of different ones of these ascending values."""
    return [list(chosen) for many in range(len(values) + 1) for chosen in itertools.combinations(values, many)]


class Player:
    """A reader that is played poll by poll, as points [5] to [8] describe it."""

    def __init__(self, order, kind="plain", margin=None):
        self.order, self.kind, self.margin = order, kind, margin
        self.cursor, self.returned = 0, set()
        self.passed, self.lists, self.cursors = [], [], []

    def poll(self, moment):
        visible, ahead = set(self.order[:moment]), self.cursor
        found = {row for row in visible if row > ahead}
        if self.kind == "overlap":
            found = {row for row in visible - self.returned if row > ahead - self.margin}
        elif self.kind == "wait":
            for passed in self.passed[max(0, len(self.passed) - self.margin):]:
                found |= (visible & passed) - self.returned
        found = sorted(found)
        if self.kind == "page":
            found = found[:self.margin]
        self.returned.update(found)
        self.cursor = max(self.returned, default=0)
        self.passed.append({row for row in self.order if ahead < row < self.cursor and row not in found})
        self.lists.append(found)
        self.cursors.append(self.cursor)

    def states(self):
        found = {}
        for row in sorted(self.order):
            found[row] = "read" if row in self.returned else "open"
            if row not in self.returned and row < self.cursor:
                found[row] = "lost"
        return found

    def lost(self):
        return [row for row, word in self.states().items() if word == "lost"]


def played(order, polls, kind="plain", margin=None):
    """Return a reader behind some polls."""
    player = Player(order, kind, margin)
    for moment in polls:
        player.poll(moment)
    return player
