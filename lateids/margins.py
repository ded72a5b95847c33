"""Margins: which overlaps and waits are enough."""

from lateids.checks import check_at_least, check_order, check_polls
from lateids.moments import dangers_of, tops_of


def reaches(order, polls):
    """Return the least overlap with which each id that a plain reader loses is read, or None."""
    check_order(order)
    check_polls(order, polls)
    return _reaches(order, polls)


def waits(order, polls):
    """Return the least wait with which each id that a plain reader loses is read, or None."""
    check_order(order)
    check_polls(order, polls)
    return _waits(order, polls)


def least_overlap(order, polls, most):
    """Return the least overlap with which at most so many ids are lost, or None."""
    check_order(order)
    check_polls(order, polls)
    check_at_least(most, 0)
    return _least_margin(_reaches(order, polls), most, 1)


def least_wait(order, polls, most):
    """Return the least wait with which at most so many ids are lost, or None."""
    check_order(order)
    check_polls(order, polls)
    check_at_least(most, 0)
    return _least_margin(_waits(order, polls), most, 0)


def greatest_reach(order):
    """Return the least overlap with which no id is lost, whatever the polls ahead of one at the end are."""
    check_order(order)
    tops, dangers = tops_of(order), dangers_of(order)
    # The top is greatest, and so the reach, at the last moment of a danger.
    return max([1] + [tops[dangers[row][1]] - row + 1 for row in dangers if dangers[row] is not None])


def _reaches(order, polls):
    """Return the least overlap that keeps each lost id, or None."""
    tops, dangerous = tops_of(order), _dangerous_polls(order, polls)
    found = {}
    for row in dangerous:
        # The last poll in danger is the last one ahead of the commit.
        reach = tops[dangerous[row][-1]] - row + 1
        found[row] = reach if _is_followed(order, polls, row) else None
    return found


def _waits(order, polls):
    """Return the least wait that keeps each lost id, or None."""
    dangerous = _dangerous_polls(order, polls)
    return {row: len(dangerous[row]) if _is_followed(order, polls, row) else None for row in dangerous}


def _dangerous_polls(order, polls):
    """Return a dict from each lost id, ascending, to the polls in its danger."""
    dangers = dangers_of(order)
    found = {}
    for row in dangers:
        if dangers[row] is not None:
            first, last = dangers[row]
            found[row] = [moment for moment in polls if first <= moment <= last]
    return {row: found[row] for row in found if found[row]}


def _is_followed(order, polls, row):
    """Return whether a poll follows the commit of an id."""
    return polls[-1] > order.index(row)


def _least_margin(needed, most, plain):
    """Return the least margin, that of a plain reader at the least, with which at most so many ids are lost."""
    needs = list(needed.values())
    spare = most - needs.count(None)
    if spare < 0:
        return None
    margins = sorted([need for need in needs if need is not None], reverse=True)
    # The ids with the greatest needs are those to lose; the next one has to be kept.
    return margins[spare] if spare < len(margins) else plain
