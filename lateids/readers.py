"""Readers: what the polls of plain and of other readers return, and what they lose."""

from lateids.checks import check_at_least, check_order, check_polls
from lateids.errors import InvalidNumber


def read(order, polls, *, overlap=1, wait=0, page=None):
    """Return the list of the lists that the polls of a reader return."""
    check_order(order)
    check_polls(order, polls)
    _check_margins(overlap, wait, page)
    lists, passed, cursor = [], {}, 0
    returned = set()
    for number, moment in enumerate(polls):
        waited = [row for row in passed if number - passed[row] <= wait]
        rows = [row for row in order[:moment] if row not in returned and (row > cursor - overlap or row in waited)]
        rows = sorted(rows)[:page]
        behind = max([cursor, *rows])
        for row in order:
            if cursor < row < behind and row not in rows:
                passed[row] = number
        for row in rows:
            returned.add(row)
        lists.append(rows)
        cursor = behind
    return lists


def states(order, polls, *, overlap=1, wait=0, page=None):
    """Return whether each id is read, lost or open behind all polls."""
    lists = read(order, polls, overlap=overlap, wait=wait, page=page)
    returned = [row for rows in lists for row in rows]
    cursor = max(returned, default=0)
    found = {}
    for row in sorted(order):
        if row in returned:
            found[row] = "read"
        else:
            found[row] = "lost" if row < cursor else "open"
    return found


def lost_ids(order, polls, *, overlap=1, wait=0, page=None):
    """Return the ascending list of the ids that are lost behind all polls."""
    found = states(order, polls, overlap=overlap, wait=wait, page=page)
    return [row for row in found if found[row] == "lost"]


def walk_polls(order, polls):
    """Yield what each poll of a plain reader returns, and the cursor behind it."""
    # All is read ahead of the first tuple, so that a change of the arguments,
    # or of a list that was yielded, does not lead the walk astray.
    lists = read(order, polls)
    cursor = 0
    for rows in lists:
        cursor = max([cursor, *rows])
        yield (rows, cursor)


def _check_margins(overlap, wait, page):
    """Raise InvalidNumber unless these belong to a plain reader or to one of another kind."""
    check_at_least(overlap, 1)
    check_at_least(wait, 0)
    if page is not None:
        check_at_least(page, 1)
    if [overlap != 1, wait != 0, page is not None].count(True) > 1:
        raise InvalidNumber("more than one of overlap, wait and page")
