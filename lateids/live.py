"""Live tables: histories that grow, with plain readers, and calls that can be reverted."""

from lateids.checks import is_integer, is_name
from lateids.errors import InvalidHistory, InvalidId, InvalidName, NothingToUndo, TooLarge
from lateids.histories import MOST_EVENTS, begun_by, check_history, committed_by, first_wrong, open_behind


class LiveTable:
    """A history that grows, with plain readers."""

    def __init__(self):
        # The history; for each name the lists that its polls returned; and for each call that
        # can be reverted its events, polls included. All else follows from the first two.
        self._events = []
        self._lists = {}
        self._calls = []

    @classmethod
    def of(cls, history):
        """Return a table with the events of a history, each of which can be reverted by itself."""
        check_history(history)
        table = cls()
        table._events = list(history)
        table._calls = [(event,) for event in history]
        return table

    @property
    def order(self):
        """The ids in the order of their commits."""
        return committed_by(self._events)

    @property
    def open_ids(self):
        """The ascending list of the open ids."""
        return open_behind(self._events)

    @property
    def readers(self):
        """The ascending list of the names that have polled."""
        return sorted(self._lists)

    def begin(self):
        """Begin a row and return its id."""
        _check_many(len(self._events) + 1)
        return self._perform_all((("begin",),))[0]

    def commit(self, row):
        """Commit an open id."""
        self._end("commit", row)

    def rollback(self, row):
        """Roll back an open id."""
        self._end("rollback", row)

    def poll(self, name):
        """Return the ascending list of the ids that the reader with this name gets now."""
        _check_name(name)
        return self._perform_all((("poll", name),))[0]

    def run(self, *events):
        """Perform events and polls, all or none, and return the list of what their calls return."""
        after = self._events + [event for event in events if not _is_poll(event)]
        if first_wrong(after) < len(after):
            raise InvalidHistory("a value is no event that can stand there")
        _check_many(len(after))
        return self._perform_all(events)

    def cursor_of(self, name):
        """Return the cursor of a reader, 0 for a name that has not polled."""
        _check_name(name)
        return max(self._returned(name), default=0)

    def lost_of(self, name):
        """Return the ascending list of the committed ids that are lost for a reader now."""
        _check_name(name)
        returned = self._returned(name)
        cursor = max(returned, default=0)
        return [row for row in sorted(self.order) if row < cursor and row not in returned]

    def undo(self):
        """Revert the last call that changed something and has not been reverted."""
        if not self._calls:
            raise NothingToUndo("no call is left that could be reverted")
        events = self._calls.pop()
        for event in reversed(events):
            if event[0] == "poll":
                self._take_back(event[1])
            else:
                self._events.pop()

    def fork(self):
        """Return an independent table in the same state, in which the same calls can be reverted."""
        table = LiveTable()
        table._events = list(self._events)
        # The lists within are never changed, so both tables may hold them.
        table._lists = {name: list(self._lists[name]) for name in self._lists}
        table._calls = list(self._calls)
        return table

    def __len__(self):
        return len(self._events)

    def __eq__(self, other):
        if not isinstance(other, LiveTable):
            return False
        return self._state() == other._state()

    def _state(self):
        """Return what equal tables have in common."""
        returned = {name: self._returned(name) for name in self._lists}
        return (begun_by(self._events), self.order, self.open_ids, returned)

    def _returned(self, name):
        """Return all ids that the reader with this name got."""
        return [row for rows in self._lists.get(name, []) for row in rows]

    def _end(self, word, row):
        """Commit or roll back an open id."""
        # Without the first test, True would be found where 1 stands.
        if not is_integer(row) or row not in self.open_ids:
            raise InvalidId("not an open id")
        _check_many(len(self._events) + 1)
        self._perform_all(((word, row),))

    def _perform_all(self, events):
        """Perform events and polls that can follow, as one call, and return what each of them returns."""
        results = []
        for event in events:
            if event[0] == "poll":
                results.append(self._ask(event[1]))
            else:
                self._events.append(event)
                results.append(begun_by(self._events) if event[0] == "begin" else None)
        if events:
            self._calls.append(events)
        return results

    def _ask(self, name):
        """Return what the reader with this name gets now, and keep it."""
        cursor = max(self._returned(name), default=0)
        rows = [row for row in sorted(self.order) if row > cursor]
        self._lists.setdefault(name, []).append(rows)
        return list(rows)

    def _take_back(self, name):
        """Revert the last poll of the reader with this name."""
        self._lists[name].pop()
        if not self._lists[name]:
            del self._lists[name]


def _is_poll(value):
    """Return whether any value is a poll of a reader with a name."""
    if not isinstance(value, tuple) or len(value) != 2 or not isinstance(value[0], str):
        return False
    return value[0] == "poll" and is_name(value[1])


def _check_name(name):
    """Raise InvalidName unless this is a name of a reader."""
    if not is_name(name):
        raise InvalidName("not a string of 1 to 8 lowercase letters")


def _check_many(many):
    """Raise TooLarge if these are too many events."""
    if many > MOST_EVENTS:
        raise TooLarge(MOST_EVENTS)
