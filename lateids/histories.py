"""Histories: the events of a table, one behind the other."""

from lateids.checks import is_between, is_id
from lateids.errors import InvalidHistory, InvalidPosition

MOST_EVENTS = 60


def is_event(value):
    """Return whether any value is an event, wherever it may stand."""
    if not isinstance(value, tuple) or len(value) not in (1, 2):
        return False
    if not isinstance(value[0], str):
        return False
    if len(value) == 1:
        return value[0] == "begin"
    return value[0] in ("commit", "rollback") and is_id(value[1])


def begun_by(events):
    """Return how many ids these events begin."""
    return len([event for event in events if event[0] == "begin"])


def committed_by(events):
    """Return the ids that these events commit, in the order of their commits."""
    return [event[1] for event in events if event[0] == "commit"]


def open_behind(events):
    """Return the ascending list of the ids that these events leave open."""
    ended = {event[1]: True for event in events if event[0] != "begin"}
    return [row for row in range(1, begun_by(events) + 1) if row not in ended]


def is_history(value):
    """Return whether any value is a history."""
    if not isinstance(value, list) or len(value) > MOST_EVENTS:
        return False
    return first_wrong(value) == len(value)


def first_wrong(values):
    """Return the position of the first value that is no event or cannot stand there, or their number."""
    # One item for each begun id: whether it is still open. With them, each event is looked at once.
    still_open = []
    for position, event in enumerate(values):
        if not is_event(event):
            return position
        if event[0] == "begin":
            still_open.append(True)
        elif event[1] <= len(still_open) and still_open[event[1] - 1]:
            still_open[event[1] - 1] = False
        else:
            return position
    return len(values)


def check_history(history):
    """Raise InvalidHistory unless this is a history."""
    if not is_history(history):
        raise InvalidHistory("not a list of at most 60 events that can follow each other")


def check_position(history, position):
    """Raise InvalidPosition unless this is a position of the history."""
    if not is_between(position, 0, len(history)):
        raise InvalidPosition("not an integer from 0 to the number of events")


def order_of(history):
    """Return the ids that the history commits, in the order of their commits."""
    check_history(history)
    return committed_by(history)


def open_at(history, position):
    """Return the ascending list of the ids that are open at a position."""
    check_history(history)
    check_position(history, position)
    return open_behind(history[:position])


def safe_at(history, position):
    """Return the greatest id at a position up to which no id is open, or 0."""
    check_history(history)
    check_position(history, position)
    ahead = history[:position]
    open_ids = open_behind(ahead)
    return open_ids[0] - 1 if open_ids else begun_by(ahead)


def spans(history):
    """Return how many ids begin between the begin and the commit of each id."""
    check_history(history)
    found = {}
    begun = 0
    for event in history:
        if event[0] == "begin":
            begun += 1
        elif event[0] == "commit":
            # The ids are the numbers of the begins, so this counts those behind its own.
            found[event[1]] = begun - event[1]
    return {row: found[row] for row in sorted(found)}
