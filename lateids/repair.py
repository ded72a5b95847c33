"""Repair: the numbers that are missing in a log, and the ranges that must be read again."""

from lateids.checks import GREATEST_ID, check_at_least, check_moment, check_order, is_between
from lateids.logs import check_log, returned_by


def missing_runs(log):
    """Return the ascending list of the runs (first, last) of neighbouring missing numbers."""
    check_log(log)
    return runs_between(returned_by(log))


def found_again(log, order, moment):
    """Return the ascending list of the missing numbers that are visible at a moment of an order."""
    check_log(log)
    check_order(order)
    check_moment(order, moment)
    runs = runs_between(returned_by(log))
    return [row for row in sorted(order[:moment]) if any([first <= row <= last for first, last in runs])]


def count_ranges(log, budget):
    """Return the least number of ranges of a repair."""
    _check_both(log, budget)
    return len(_ranges(log, budget))


def ranges_for(log, budget):
    """Return a repair with the least number of ranges."""
    _check_both(log, budget)
    return _ranges(log, budget)


def is_repair(log, budget, value):
    """Return whether any value is a repair."""
    _check_both(log, budget)
    if not isinstance(value, list) or not all([_is_range(item) for item in value]):
        return False
    if not all([one[1] < other[0] for one, other in zip(value, value[1:])]):
        return False
    rows = returned_by(log)
    if len([row for row in rows if _contains(value, row, row)]) > budget:
        return False
    joined = _joined(value)
    return all([_contains(joined, first, last) for first, last in runs_between(rows)])


def runs_between(rows):
    """Return the runs of the numbers from 1 on that are not among ascending ids, up to the last of these."""
    return [(one + 1, other - 1) for one, other in zip([0] + rows, rows) if other - one > 1]


def _check_both(log, budget):
    """Raise an error unless these are a log and a budget."""
    check_log(log)
    check_at_least(budget, 0)


def _is_range(value):
    """Return whether any value is a range (first, last) of numbers."""
    if not isinstance(value, tuple) or len(value) != 2 or not is_between(value[0], 1, GREATEST_ID):
        return False
    return is_between(value[1], value[0], GREATEST_ID)


def _ranges(log, budget):
    """Return a repair with the least number of ranges for a log and a budget that have been checked."""
    rows = returned_by(log)
    runs = runs_between(rows)
    # Joining a run with the one ahead of it costs the ids between them; the costs only add
    # up, so the cheapest ones are joined.
    costs = [(len([row for row in rows if runs[at - 1][1] < row < runs[at][0]]), at) for at in range(1, len(runs))]
    joins, left = {}, budget
    for cost, at in sorted(costs):
        if cost <= left:
            joins[at] = True
            left -= cost
    ranges = []
    for at, (first, last) in enumerate(runs):
        if at in joins:
            first, _ = ranges.pop()
        ranges.append((first, last))
    return ranges


def _joined(ranges):
    """Return ascending ranges with those joined that touch each other."""
    joined = []
    for first, last in ranges:
        if joined and joined[-1][1] + 1 == first:
            first, _ = joined.pop()
        joined.append((first, last))
    return joined


def _contains(ranges, first, last):
    """Return whether one of the ranges contains all numbers from the first to the last one."""
    return any([low <= first and last <= high for low, high in ranges])
