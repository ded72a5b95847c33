"""Moments: what is visible, what one poll makes lost, and dangers."""

from lateids.checks import check_moment, check_order, is_integer
from lateids.errors import InvalidId


def visible_at(order, moment):
    """Return the ascending list of the ids that are visible at a moment."""
    check_order(order)
    check_moment(order, moment)
    return sorted(order[:moment])


def top_at(order, moment):
    """Return the greatest id that is visible at a moment, 0 if none is."""
    check_order(order)
    check_moment(order, moment)
    return _top(order, moment)


def missed_at(order, moment):
    """Return the ascending list of the ids that a poll at a moment makes lost."""
    check_order(order)
    check_moment(order, moment)
    return _missed(order, moment)


def missed_counts(order):
    """Return how many ids a poll makes lost, for each moment from 0 on."""
    check_order(order)
    return [len(_missed(order, moment)) for moment in range(len(order) + 1)]


def danger_of(order, row):
    """Return the first and the last moment of an id's danger, or None."""
    check_order(order)
    # Without the first test, True would be found where 1 stands.
    if not is_integer(row) or row not in order:
        raise InvalidId("not an id of the order")
    return _danger(order, row)


def safe_ids(order):
    """Return the ascending list of the ids without danger."""
    check_order(order)
    return [row for row in sorted(order) if _danger(order, row) is None]


def _top(order, moment):
    """Return the top of a moment."""
    return max(order[:moment], default=0)


def _missed(order, moment):
    """Return the ascending list of the later ids below the top."""
    top = _top(order, moment)
    return sorted([row for row in order[moment:] if row < top])


def _danger(order, row):
    """Return the danger of an id of the order."""
    last = order.index(row)
    for moment in range(last + 1):
        # Tops never fall, so every moment from this one to the last is in danger.
        if _top(order, moment) > row:
            return (moment, last)
    return None
