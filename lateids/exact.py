"""Exact losses: which ids polls can lose alone, with which polls, and how many such polls there are."""

from lateids.checks import check_order, is_integer
from lateids.errors import InvalidIds, NotPossible
from lateids.moments import missed_lists


def can_lose(order, ids):
    """Return whether some polls of a plain reader lose exactly these ids."""
    check_order(order)
    _check_ids(order, ids)
    choices = _choices(order, ids)
    return all([len(choices[row]) > 0 for row in ids])


def alone_ids(order):
    """Return the ascending list of the ids that can be lost without any other one."""
    check_order(order)
    missed = missed_lists(order)
    return [row for row in sorted(order) if [row] in missed]


def polls_for(order, ids):
    """Return as few polls as possible with which a plain reader loses exactly these ids."""
    check_order(order)
    _check_ids(order, ids)
    choices = _choices(order, ids)
    for row in ids:
        if not choices[row]:
            raise NotPossible(row)
    polls = []
    # The dangers end in the order of the commits. So, for an id that no poll makes lost
    # yet, its last choice makes at least as many of the later ids lost as any other one.
    for row in order:
        if row in choices and (not polls or polls[-1] not in choices[row]):
            polls.append(choices[row][-1])
    return polls


def count_polls_for(order, ids):
    """Return how many strictly ascending lists of moments lose exactly these ids."""
    check_order(order)
    _check_ids(order, ids)
    choices = _choices(order, ids)
    allowed = _allowed_moments(order, ids)
    # The lists so far, counted by their last moment; -1 stands for the empty list.
    counts = {-1: 1}
    for moment in range(len(order) + 1):
        if moment in allowed:
            counts[moment] = sum(counts.values())
        if moment < len(order) and order[moment] in choices:
            # The id commits now: it is lost if and only if the last moment is in its danger.
            chosen = choices[order[moment]]
            counts = {last: counts[last] for last in counts if last in chosen}
    return sum(counts.values())


def _check_ids(order, ids):
    """Raise InvalidIds unless this is an ascending list of different ids of the order."""
    if not _are_ids(order, ids):
        raise InvalidIds("not an ascending list of different ids of the order")


def _are_ids(order, value):
    """Return whether any value is an ascending list of different ids of the order."""
    if not isinstance(value, list):
        return False
    if not all([is_integer(row) and row in order for row in value]):
        return False
    return value == sorted(set(value))


def _allowed_moments(order, ids):
    """Return the moments at which a poll makes no other id lost than these."""
    missed = missed_lists(order)
    return [moment for moment in range(len(missed)) if all([row in ids for row in missed[moment]])]


def _choices(order, ids):
    """Return a dict from each of the ids to the allowed moments of its danger."""
    missed = missed_lists(order)
    allowed = _allowed_moments(order, ids)
    return {row: [moment for moment in allowed if row in missed[moment]] for row in ids}
