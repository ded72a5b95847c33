"""Counts: what the numbers of returned ids and the cursors alone tell."""

from math import comb

from lateids.checks import GREATEST_ID, MOST_IDS, check_between, check_ids, is_between
from lateids.errors import InvalidCounts, NoFit

MOST_COUNTS = 12


def counts_fit(counts, ids):
    """Return whether a log with these counts fits the ids."""
    _check_both(counts, ids)
    return _counts_fit(counts, ids)


def lost_numbers(counts, ids):
    """Return for each poll the number of ids that are lost between the old and the new cursor."""
    _check_fitting(counts, ids)
    return [len(rows) - number for (number, _), rows in zip(counts, _passed(counts, ids))]


def states_by(counts, ids):
    """Return whether each id is read, lost, open or unknown in the logs with these counts."""
    _check_fitting(counts, ids)
    found = {row: "open" for row in ids}
    for (number, cursor), rows in zip(counts, _passed(counts, ids)):
        for row in rows:
            if row == cursor or number == len(rows):
                found[row] = "read"
            else:
                found[row] = "lost" if number == 1 else "unknown"
    return found


def count_logs(counts, ids):
    """Return the number of logs with these counts that fit the ids."""
    _check_both(counts, ids)
    return _count_logs(counts, ids)


def nth_log(counts, ids, number):
    """Return the log with this number of those with these counts that fit the ids."""
    _check_both(counts, ids)
    check_between(number, 0, _count_logs(counts, ids) - 1)
    log = []
    # The lists of the last poll change first, so its list is found first.
    for (many, _), rows in reversed(list(zip(counts, _passed(counts, ids)))):
        number, choice = divmod(number, _count_choices(rows, many))
        log.append(_nth_choice(rows, many, choice))
    return log[::-1]


def _is_count(value):
    """Return whether any value is a tuple of a number of ids and a cursor."""
    if not isinstance(value, tuple) or len(value) != 2:
        return False
    return is_between(value[0], 0, MOST_IDS) and is_between(value[1], 0, GREATEST_ID)


def _check_both(counts, ids):
    """Raise an error unless these are counts and ids."""
    if not isinstance(counts, list) or len(counts) > MOST_COUNTS or not all([_is_count(count) for count in counts]):
        raise InvalidCounts("not a list of at most 12 tuples of a number of ids and a cursor")
    check_ids(ids)


def _check_fitting(counts, ids):
    """Raise an error unless these are counts that fit the ids."""
    _check_both(counts, ids)
    if not _counts_fit(counts, ids):
        raise NoFit(0)


def _counts_fit(counts, ids):
    """Return whether counts that have been checked fit the ids."""
    old = 0
    for (number, cursor), rows in zip(counts, _passed(counts, ids)):
        if cursor == old:
            if number > 0:
                return False
        elif not rows or rows[-1] != cursor or not 1 <= number <= len(rows):
            return False
        old = cursor
    return True


def _passed(counts, ids):
    """Return for each poll the ids that are greater than the old cursor and not greater than the new one."""
    olds = [0] + [cursor for _, cursor in counts]
    return [[row for row in ids if old < row <= cursor] for old, (_, cursor) in zip(olds, counts)]


def _count_logs(counts, ids):
    """Return the number of logs with counts that have been checked, 0 if they do not fit."""
    if not _counts_fit(counts, ids):
        return 0
    total = 1
    for (number, _), rows in zip(counts, _passed(counts, ids)):
        total *= _count_choices(rows, number)
    return total


def _count_choices(rows, many):
    """Return in how many ways a poll can return so many of the ids that it passes, the last one among them."""
    return comb(len(rows) - 1, many - 1) if rows else 1


def _nth_choice(rows, many, number):
    """Return the list with this number of those that the poll can return."""
    found = []
    for at, row in enumerate(rows[:-1]):
        # The lists with this id come first, then those with a greater one in its place.
        behind, left = len(rows) - 2 - at, many - 1 - len(found)
        ways = comb(behind, left - 1) if left > 0 else 0
        if number < ways:
            found.append(row)
        else:
            number -= ways
    return found + rows[-1:]
