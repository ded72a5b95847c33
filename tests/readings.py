"""Logs, ids and what readers return, shared by several test files."""

import random

from orders import GREATEST, WRONG_ORDERS, drawn_polls, played
from samples import NO_INTEGERS, NO_LISTS, Equal, Odd

EXAMPLE_LOG = [[2], [4, 5], [6, 7]]
EXAMPLE_IDS = [1, 2, 3, 4, 5, 6, 7]
FULL = list(range(1, 31))

# An order is judged by itself, ids must be ascending, too.
WRONG_IDS = WRONG_ORDERS + [[2, 1], [1, 3, 2], [GREATEST, 1], FULL[::-1], FULL[1:] + [1], list(range(1, 32))]

WRONG_LOGS = NO_LISTS + [
    [[0]], [[-1]], [[1], [GREATEST + 1]], [[10 ** 40]], [[], [0]], [[1, 0]],
    [[1, 1]], [[2, 1]], [[2], [1]], [[2], [2]], [[1, 3], [2]], [[5], [], [4]], [[5], [], [5]], [[3, 4], [1, 2]],
    [[]] * 13, [[row] for row in range(1, 14)], [[1]] + [[]] * 12,
    [list(range(1, 32))], [FULL, [31]], [[row, row + 40] for row in range(1, 3)], [FULL[:15], FULL[15:], [], [31]],
    ([1],), ((1,),), (), ([],), [(1,)], [[1], (2,)], [()], [[1], ()], [[[1]]], [[[]]], [[1, [2]]], [[1], [[2]]], [1, 2],
    [[1], 2], [1, [2]], [[Odd()]], [[Odd(), Odd()]], [Odd(), Odd()], [Equal()], [[Equal()]], [[1, Equal()]],
    ["1", "2"], [["1"]], [[1.0]], [[1], [2.0]], [[True]], [[True, 2]], [[1, True]], [[False]], [{1: 2}], [{1}], {1: [1]},
]
WRONG_LOGS += [[value] for value in NO_LISTS] + [[[1], value] for value in NO_LISTS]
for _value in NO_INTEGERS:
    WRONG_LOGS += [[[_value]], [[1], [_value]], [[1, 2], [3, _value]]]


def plainly_a_log(value):
    """Return whether any value is a log, judged id by id."""
    if type(value) is not list or len(value) > 12:
        return False
    last, many = 0, 0
    for rows in value:
        if type(rows) is not list:
            return False
        for row in rows:
            if type(row) is not int or not last < row <= GREATEST:
                return False
            last, many = row, many + 1
    return many <= 30


def drawn_ids(source, many):
    """Return so many ids, near or far apart; a source of random numbers chooses them."""
    greatest = source.choice([many, many, many + 3, 2 * many + 5, 10 ** 6, GREATEST])
    if greatest < 10 ** 7:
        return sorted(source.sample(range(1, greatest + 1), many))
    found = {1, GREATEST} if many > 2 and source.random() < 0.5 else set()
    while len(found) < many:
        found.add(source.randint(1, GREATEST))
    return sorted(found)


def drawn_order(source, ids):
    """Return an order of the ids: mixed, nearly ascending, ascending or descending."""
    kind = source.randrange(4)
    if kind == 0:
        return source.sample(ids, len(ids))
    if kind == 1:
        return ids[::-1]
    order = list(ids)
    if kind == 2:
        for _ in range(len(ids)):
            if len(ids) > 1:
                at = source.randrange(len(ids) - 1)
                order[at], order[at + 1] = order[at + 1], order[at]
    return order


def drawn_case(source, many, most=12):
    """Return a log of at most so many polls, the ids it fits, and an order that leads to it."""
    ids = drawn_ids(source, many)
    order = drawn_order(source, ids)
    polls = source.choice(drawn_polls(source, order))
    if len(polls) > most:
        polls = sorted(source.sample(polls, most))
    return played(order, polls).lists, ids, order


def some_cases():
    """Return tuples of a log and ids that it fits, small and great ones."""
    source = random.Random(33)
    cases = [
        ([], []), ([], [1]), ([], FULL), ([[]], []), ([[]] * 12, FULL), ([[]] * 12, []), ([FULL], FULL),
        ([[GREATEST]], FULL + [GREATEST]),
        (EXAMPLE_LOG, EXAMPLE_IDS), (EXAMPLE_LOG, [2, 4, 5, 6, 7]), (EXAMPLE_LOG, EXAMPLE_IDS + [9, GREATEST]),
        ([[2], []], [1, 2]), ([[], [GREATEST], []], [1, GREATEST - 1, GREATEST]), ([[5], [], [6]], [1, 5, 6, 7]),
        ([[row] for row in range(2, 26, 2)], FULL), ([[30]], FULL), ([[1]] + [[]] * 11, FULL),
        ([[row] for row in range(1, 13)], FULL),
    ]
    cases = [(log, ids[-30:]) for log, ids in cases]
    for many in range(31):
        for _ in range(3):
            log, ids, _ = drawn_case(source, many)
            cases.append((log, ids))
    return cases
