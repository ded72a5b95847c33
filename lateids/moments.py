"""Moments: what is visible, what one poll makes lost, and dangers."""

from lateids.checks import check_moment, check_order, is_integer
from lateids.errors import InvalidId


def visible_at(order, moment):
    """Return the ascending list of the ids that are visible at a moment."""
    check_order(order)
    check_moment(order, moment)
    return sorted(order[:moment])


def top_at(order, moment):
    """Return the greatest id that is visible at a moment, 0 if none is."""
    check_order(order)
    check_moment(order, moment)
    return tops_of(order)[moment]


def missed_at(order, moment):
    """Return the ascending list of the ids that a poll at a moment makes lost."""
    check_order(order)
    check_moment(order, moment)
    return ids_below(order[moment:], tops_of(order)[moment])


def missed_counts(order):
    """Return how many ids a poll makes lost, for each moment from 0 on."""
    check_order(order)
    return [len(missed) for missed in missed_lists(order)]


def danger_of(order, row):
    """Return the first and the last moment of an id's danger, or None."""
    check_order(order)
    # Without the first test, True would be found where 1 stands.
    if not is_integer(row) or row not in order:
        raise InvalidId("not an id of the order")
    return _danger(order, tops_of(order), row)


def safe_ids(order):
    """Return the ascending list of the ids without danger."""
    check_order(order)
    dangers = dangers_of(order)
    return [row for row in dangers if dangers[row] is None]


# The other modules use the functions below, too, for orders that they have checked.


def tops_of(order):
    """Return the tops of all moments from 0 on."""
    tops = [0]
    for row in order:
        tops.append(max(tops[-1], row))
    return tops


def ids_below(ids, top):
    """Return the ascending list of those of the ids that are less than a top."""
    return sorted([row for row in ids if row < top])


def missed_lists(order):
    """Return the lists of the ids that one poll makes lost, for all moments from 0 on."""
    tops = tops_of(order)
    return [ids_below(order[moment:], tops[moment]) for moment in range(len(tops))]


def dangers_of(order):
    """Return a dict from each id, in ascending order, to its danger, or None."""
    tops = tops_of(order)
    return {row: _danger(order, tops, row) for row in sorted(order)}


def _danger(order, tops, row):
    """Return the danger of an id of the order, or None."""
    last = order.index(row)
    for moment in range(last + 1):
        # Tops never fall, so every moment from this one to the last is in danger.
        if tops[moment] > row:
            return (moment, last)
    return None
