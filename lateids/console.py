"""The console: a live table that takes rows of words."""

from lateids.checks import is_name
from lateids.errors import InvalidCommand, NothingToUndo
from lateids.live import LiveTable
from lateids.moments import danger_of
from lateids.repair import runs_between
from lateids.texts import event_of, number_of, word_of


class Console:
    """A live table that takes rows of words and answers with strings."""

    def __init__(self):
        self._table = LiveTable()
        # For each row that can be reverted the table that it replaced, None if it replaced none.
        self._replaced = []

    def execute(self, row):
        """Take one row and return its answer."""
        words = row.split(" ") if isinstance(row, str) else []
        events = [event_of(word) for word in words]
        if words and None not in events:
            return self._run(events)
        if len(words) == 1:
            return self._take_word(row)
        if len(words) == 2:
            return self._answer_about(words[0], words[1])
        raise InvalidCommand("not a row of one of the forms")

    def _take_word(self, word):
        """Take a row of one word that is no event."""
        if word == "reset":
            return self._reset()
        if word == "undo":
            return self._undo()
        if word == "order":
            return word_of(self._table.order)
        if word == "open":
            return word_of(self._table.open_ids)
        if word[-1:] == "?" and is_name(word[:-1]):
            return self._poll(word[:-1])
        raise InvalidCommand("not a row of one of the forms")

    def _answer_about(self, word, other):
        """Answer a question of two words."""
        number = number_of(other)
        if word == "danger" and number is not None:
            return self._danger(number)
        if is_name(other):
            if word == "cursor":
                return str(self._table.cursor_of(other))
            if word == "lost":
                return word_of(self._table.lost_of(other))
            if word == "missing":
                return self._missing(other)
        raise InvalidCommand("not a row of one of the forms")

    def _run(self, events):
        """Run events and answer with the new ids."""
        results = self._table.run(*events)
        self._replaced.append(None)
        begun = [str(row) for row in results if row is not None]
        return " ".join(begun) if begun else "ok"

    def _poll(self, name):
        """Poll and answer with the returned ids."""
        rows = self._table.poll(name)
        self._replaced.append(None)
        return word_of(rows)

    def _reset(self):
        """Begin anew with a new table."""
        self._replaced.append(self._table)
        self._table = LiveTable()
        return "ok"

    def _undo(self):
        """Revert the last row that changed something and has not been reverted."""
        if not self._replaced:
            raise NothingToUndo("no row is left that could be reverted")
        table = self._replaced.pop()
        if table is None:
            self._table.undo()
        else:
            self._table = table
        return "ok"

    def _danger(self, row):
        """Answer with the first and the last moment of an id's danger."""
        danger = danger_of(self._table.order, row)
        return "none" if danger is None else f"{danger[0]} {danger[1]}"

    def _missing(self, name):
        """Answer with the runs of the numbers that are missing in what a reader got."""
        cursor, lost = self._table.cursor_of(name), self._table.lost_of(name)
        returned = [row for row in sorted(self._table.order) if row <= cursor and row not in lost]
        runs = [f"{first}-{last}" for first, last in runs_between(returned)]
        return " ".join(runs) if runs else "-"
