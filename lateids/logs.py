"""One log: the blocks in which ids were committed, and the orders that lead to it."""

from lateids.checks import are_ids, check_between, check_ids, is_integer, is_order
from lateids.errors import InvalidId, InvalidLog, InvalidOrder, NotPossible

MOST_LISTS = 12


def is_log(value):
    """Return whether any value is a log."""
    if not isinstance(value, list) or len(value) > MOST_LISTS:
        return False
    return all([isinstance(rows, list) for rows in value]) and are_ids(returned_by(value))


def fits(log, ids):
    """Return whether all ids of a log are among the ids."""
    check_log(log)
    check_ids(ids)
    return unknown_id(log, ids) is None


def blocks(log, ids):
    """Return the first and the last block in which each id can have been committed."""
    _check_fitting(log, ids)
    return blocks_of(log, ids)


def surely_ahead(log, ids, one, other):
    """Return whether one id is ahead of another one in every order that leads to the log."""
    check_log(log)
    check_ids(ids)
    _check_one_of(ids, one)
    _check_one_of(ids, other)
    _check_fitting(log, ids)
    found = blocks_of(log, ids)
    return found[one][1] < found[other][0]


def count_orders(log, ids):
    """Return the number of orders that lead to a log."""
    _check_fitting(log, ids)
    return _count(list(blocks_of(log, ids).values()), len(log))


def is_order_of(log, ids, value):
    """Return whether any value is an order that leads to a log."""
    _check_fitting(log, ids)
    return _leads(blocks_of(log, ids), value)


def nth_order(log, ids, number):
    """Return the order with this number of those that lead to a log."""
    _check_fitting(log, ids)
    left = blocks_of(log, ids)
    check_between(number, 0, _count(list(left.values()), len(log)) - 1)
    order = []
    while left:
        for row, many in _choices(left, len(log)):
            if number < many:
                break
            number -= many
        order.append(row)
        del left[row]
    return order


def order_number(log, ids, order):
    """Return the number of an order among those that lead to a log."""
    _check_fitting(log, ids)
    left = blocks_of(log, ids)
    if not _leads(left, order):
        raise InvalidOrder("not an order that leads to the log")
    number = 0
    for row in order:
        number += sum([many for other, many in _choices(left, len(log)) if other < row])
        del left[row]
    return number


# The other modules use the functions below, too.


def check_log(log):
    """Raise InvalidLog unless this is a log."""
    if not is_log(log):
        raise InvalidLog("not a list of at most 12 lists with at most 30 ids, strictly ascending through all of them")


def returned_by(log):
    """Return all ids of the lists of a log, one list behind the other."""
    return [row for rows in log for row in rows]


def unknown_id(log, ids):
    """Return the least id of a log that is not one of the ids, or None."""
    for row in returned_by(log):
        if row not in ids:
            return row
    return None


def blocks_of(log, ids):
    """Return the blocks of all ids for a log and ids that have been checked."""
    end = len(log)
    polls = {row: number for number, rows in enumerate(log) for row in rows}
    cursors = [0]
    for rows in log:
        cursors.append(rows[-1] if rows else cursors[-1])
    found = {}
    for row in ids:
        if row in polls:
            found[row] = (polls[row], polls[row])
        else:
            # The polls with a smaller cursor did not pass the id, the next one did, if there
            # is one. The cursor ahead of all polls is counted, too: it stands for that one.
            found[row] = (min(end, len([cursor for cursor in cursors if cursor < row])), end)
    return found


def _check_fitting(log, ids):
    """Raise an error unless these are a log and ids that it fits."""
    check_log(log)
    check_ids(ids)
    row = unknown_id(log, ids)
    if row is not None:
        raise NotPossible(row)


def _check_one_of(ids, row):
    """Raise InvalidId unless this is one of the ids."""
    # Without the first test, True would be found where 1 stands.
    if not is_integer(row) or row not in ids:
        raise InvalidId("not one of the ids")


def _leads(found, value):
    """Return whether any value is an order of the ids in which the blocks can follow each other."""
    if not is_order(value) or sorted(value) != list(found):
        return False
    block = 0
    for row in value:
        first, last = found[row]
        block = max(block, first)
        if block > last:
            return False
    return True


def _count(spans, end):
    """Return the number of orders of ids with these blocks, the last of which is the end.

    The ids are put in from the last blocks to the first ones, the read ids of a block ahead
    of its lost ones. So a read id stands ahead of all that are there but the read ones of its
    own block, and any other id can stand anywhere. An open id is like one lost at the end.
    """
    total, read = 1, {}
    for placed, (first, last) in enumerate(sorted(spans, key=lambda span: (-span[0], span[1]))):
        if last == end:
            total *= placed + 1
        else:
            read[first] = read.get(first, 0) + 1
            total *= read[first]
    return total


def _choices(left, end):
    """Return tuples of an id that can come next, ascending, and the number of orders of the rest behind it."""
    earliest = min([last for _, last in left.values()])
    counts, found = {}, []
    for row in left:
        span = left[row]
        if span[0] <= earliest:
            # The ids with the same blocks leave equally many orders.
            if span not in counts:
                counts[span] = _count([left[other] for other in left if other != row], end)
            found.append((row, counts[span]))
    return found
