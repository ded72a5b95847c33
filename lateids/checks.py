"""Checks of values that several modules share."""

from lateids.errors import InvalidIds, InvalidMoment, InvalidNumber, InvalidOrder, InvalidPolls

GREATEST_ID = 10 ** 30
MOST_IDS = 30
MOST_POLLS = 30
LONGEST_NAME = 8


def is_integer(value):
    """Return whether any value is an integer."""
    # For Python, True and False are of the kind int, too.
    return isinstance(value, int) and not isinstance(value, bool)


def is_between(value, low, high):
    """Return whether any value is an integer from low to high."""
    return is_integer(value) and low <= value <= high


def is_id(value):
    """Return whether any value is an id."""
    return is_between(value, 1, GREATEST_ID)


def is_name(value):
    """Return whether any value is a name of a reader."""
    if not isinstance(value, str) or not 1 <= len(value) <= LONGEST_NAME:
        return False
    return all(["a" <= letter <= "z" for letter in value])


def is_order(value):
    """Return whether any value is an order."""
    if not isinstance(value, list) or len(value) > MOST_IDS:
        return False
    # What is no id may have no hash, so the kinds are looked at first.
    return all([is_id(row) for row in value]) and len(set(value)) == len(value)


def check_order(order):
    """Raise InvalidOrder unless this is an order."""
    if not is_order(order):
        raise InvalidOrder("not a list of at most 30 different ids")


def are_ids(value):
    """Return whether any value is a strictly ascending list of at most 30 ids."""
    return is_order(value) and value == sorted(value)


def check_ids(ids):
    """Raise InvalidIds unless this is a strictly ascending list of at most 30 ids."""
    if not are_ids(ids):
        raise InvalidIds("not a strictly ascending list of at most 30 ids")


def check_moment(order, moment):
    """Raise InvalidMoment unless this is a moment of the order."""
    if not is_between(moment, 0, len(order)):
        raise InvalidMoment("not an integer from 0 to the number of ids")


def are_polls(order, value):
    """Return whether any value is a list of polls at moments of the order."""
    if not isinstance(value, list) or len(value) > MOST_POLLS:
        return False
    # What is no integer may not be sortable, so the kinds are looked at first.
    return all([is_between(moment, 0, len(order)) for moment in value]) and value == sorted(value)


def check_polls(order, polls):
    """Raise InvalidPolls unless these are polls at moments of the order."""
    if not are_polls(order, polls):
        raise InvalidPolls("not a list of at most 30 moments, none less than the one before")


def check_at_least(value, low):
    """Raise InvalidNumber unless this is an integer from low on."""
    if not is_integer(value) or value < low:
        raise InvalidNumber("not an integer, or one that is too small")


def check_between(value, low, high):
    """Raise InvalidNumber unless this is an integer from low to high."""
    if not is_between(value, low, high):
        raise InvalidNumber("not an integer, or one out of range")
