"""The console: points [57] to [59], and the conventions [2] for it."""

import random
import re
import unittest

from lateids.console import Console
from lateids.errors import InvalidCommand, InvalidHistory, InvalidId, LateError, NothingToUndo, TooLarge
from lateids.live import LiveTable
from lateids.moments import danger_of
from lateids.repair import missing_runs
from lateids.texts import parse_history
from samples import NO_INTEGERS, NO_LISTS, ExactCase, steps_of

GREATEST = 10 ** 30
NAMES = ["a", "b", "order", "undo", "abcdefgh"]
SIGNS = [chr(code) for code in range(32, 127) if chr(code) != "%"]
QUESTIONS = ["order", "open"] + [f"{word} {name}" for word in ["cursor", "lost", "missing"] for name in NAMES] + [
    f"danger {row}" for row in [0, 1, 2, 3, 10, 31, GREATEST]]

NAME = "[a-z]{1,8}"
WORD = "b|[cr][1-9][0-9]*"
FORMS = [f"{NAME}\\?", "reset", "undo", "order", "open", f"(cursor|lost|missing) {NAME}", "danger (0|[1-9][0-9]{0,30})"]


def is_row(value):
    """Return whether any value is a string of one of the forms."""
    if type(value) is not str:
        return False
    if re.fullmatch(f"({WORD})( ({WORD}))*", value):
        return all(word == "b" or len(word) <= 32 and int(word[1:]) <= GREATEST for word in value.split(" "))
    return any(re.fullmatch(form, value) for form in FORMS)


def listed(rows):
    return ",".join(map(str, rows)) if rows else "-"


class Model:
    """A live table that gets the same as a console, and copies of it ahead of each row."""

    def __init__(self):
        self.table, self.lists, self.kept = LiveTable(), {}, []

    def keep(self):
        self.kept.append((self.table.fork(), {name: list(lists) for name, lists in self.lists.items()}))

    def change(self, row):
        """Return the answer of a row that changes something, or None of another one."""
        if row == "undo":
            if not self.kept:
                raise NothingToUndo("none")
            self.table, self.lists = self.kept.pop()
            return "ok"
        if row == "reset":
            self.keep()
            self.table, self.lists = LiveTable(), {}
            return "ok"
        if row.endswith("?"):
            self.keep()
            rows = self.table.poll(row[:-1])
            self.lists.setdefault(row[:-1], []).append(rows)
            return listed(rows)
        return None

    def execute(self, row):
        if not is_row(row):
            raise InvalidCommand("none")
        answer = self.change(row)
        if answer is not None:
            return answer
        if re.fullmatch(f"({WORD})( .*)?", row):
            before = self.table.fork()
            events = [("begin",) if word == "b" else ({"c": "commit", "r": "rollback"}[word[0]], int(word[1:]))
                      for word in row.split(" ")]
            results = self.table.run(*events)
            self.kept.append((before, {name: list(lists) for name, lists in self.lists.items()}))
            return " ".join(str(number) for number in results if number) or "ok"
        word, _, other = row.partition(" ")
        if word in ("order", "open"):
            return listed(self.table.order if word == "order" else self.table.open_ids)
        if word == "danger":
            danger = danger_of(self.table.order, int(other))
            return "none" if danger is None else f"{danger[0]} {danger[1]}"
        if word == "missing":
            # A log has at most twelve lists, a reader can get more.
            rows = [number for lists in self.lists.get(other, []) for number in lists]
            return " ".join(f"{first}-{last}" for first, last in missing_runs([rows])) or "-"
        return str(self.table.cursor_of(other)) if word == "cursor" else listed(self.table.lost_of(other))


def drawn_row(source, table):
    """Return a row of some form, seldom one that raises an error; a source of random numbers chooses it."""
    kind, name = source.random(), source.choice(NAMES)
    if kind < 0.35:
        words, still_open, begun = [], list(table.open_ids), len(table.order) + len(table.open_ids)
        for _ in range(source.choice([1, 1, 1, 2, 5])):
            if still_open and source.random() < 0.6:
                row = still_open.pop(source.randrange(len(still_open)))
                words.append(source.choice("cccr") + str(row))
            else:
                begun += 1
                words.append("b")
        return " ".join(words)
    if kind < 0.6:
        return name + "?"
    if kind < 0.72:
        return "undo"
    if kind < 0.74:
        return "reset"
    return source.choice(QUESTIONS + ["danger " + str(row) for row in table.order] * 3)


def spoiled(source, row):
    """Return a row with one character put in, left out, doubled or replaced."""
    kind, at = source.randrange(5), source.randint(0, len(row))
    if kind == 0:
        return row[:at] + source.choice(SIGNS + ["\n"]) + row[at:]
    if kind == 1:
        return row[:at] + row[at + 1:]
    if kind == 2:
        return row[:at] + row[at:at + 1] * 2 + row[at + 1:]
    if kind == 3:
        return row[:at] + source.choice(list("0123456789abcr? ")) + row[at + 1:]
    return row[:at] + row[at:].upper()


class ConsoleCase(ExactCase):

    def result_of(self, execute, row):
        """Return the answer of a row, or the kind and the fields of its error."""
        try:
            answer = execute(row)
        except LateError as found:
            return type(found), vars(found)
        self.assertIs(type(answer), str)
        return answer

    def assert_like(self, console, model, rows):
        for row in rows:
            self.assertEqual(self.result_of(console.execute, row), self.result_of(model.execute, row), row)

    def assert_refused(self, console, error, row):
        before = [self.result_of(console.execute, question) for question in QUESTIONS]
        found = self.assert_raises_exactly(error, console.execute, row)
        self.assertEqual([self.result_of(console.execute, question) for question in QUESTIONS], before)
        return found

    def answers(self, console, *rows):
        return [console.execute(row) for row in rows]


class ExamplesTest(ConsoleCase):

    def test_rows(self):
        console = Console()
        rows = ["b b b", "c2", "a?", "c1 c3", "a?", "lost a", "cursor a", "missing a", "danger 1", "undo", "order",
                "open"]
        self.assertEqual([console.execute(row) for row in rows],
                         ["1 2 3", "ok", "2", "ok", "3", "1", "3", "1-1", "1 1", "ok", "2,1,3", "-"])


class RowsTest(ConsoleCase):

    def test_drawn_rows_beside_a_live_table(self):
        for seed in range(20):
            source, console, model = random.Random(seed), Console(), Model()
            for _ in range(300):
                row = drawn_row(source, model.table)
                self.assertEqual(self.result_of(console.execute, row), self.result_of(model.execute, row), row)
                if source.random() < 0.1:
                    self.assert_like(console, model, QUESTIONS)

    def test_spoiled_rows(self):
        source, refused = random.Random(100), 0
        for _ in range(10):
            console, model = Console(), Model()
            for _ in range(120):
                row = drawn_row(source, model.table)
                other = spoiled(source, row)
                refused += not is_row(other)
                self.assertEqual(self.result_of(console.execute, other), self.result_of(model.execute, other), other)
                self.assertEqual(self.result_of(console.execute, row), self.result_of(model.execute, row), row)
            self.assert_like(console, model, QUESTIONS)
            while self.result_of(model.execute, "undo") == "ok":
                self.assertEqual(console.execute("undo"), "ok")
                self.assert_like(console, model, QUESTIONS[:6])
            self.assert_refused(console, NothingToUndo, "undo")
        self.assertGreater(refused, 300)

    def test_each_form(self):
        console = Console()
        self.assertEqual(self.answers(console, "b", "b b", "c2", "r1", "b c3 b", "r4 c5"),
                         ["1", "2 3", "ok", "ok", "4 5", "ok"])
        self.assertEqual(self.answers(console, "order", "open", "a?", "a?", "abcdefgh?", "cursor a", "lost a",
                                      "missing a"),
                         ["2,3,5", "-", "2,3,5", "-", "2,3,5", "5", "-", "1-1 4-4"])
        self.assertEqual(self.answers(console, "cursor b", "lost b", "missing b", "danger 2", "danger 5"),
                         ["0", "-", "-", "none", "none"])
        self.assertEqual(self.answers(console, "b b", "c7", "a?", "c6", "lost a", "missing a", "danger 6", "open"),
                         ["6 7", "ok", "7", "ok", "6", "1-1 4-4 6-6", "4 4", "-"])
        self.assertEqual(self.answers(console, "reset", "order", "open", "cursor a", "lost a", "missing a", "a?", "b"),
                         ["ok", "-", "-", "0", "-", "-", "-", "1"])

    def test_names_that_are_words_of_other_forms(self):
        console = Console()
        self.assertEqual(self.answers(console, "b", "c1", "undo?", "reset?", "b?", "order?", "open?", "cursor undo",
                                      "lost order", "missing reset"),
                         ["1", "ok", "1", "1", "1", "1", "1", "1", "-", "-"])
        self.assertEqual(self.answers(console, "cursor cursor", "cursor?", "cursor cursor", "danger?", "cursor danger"),
                         ["0", "1", "1", "1", "1"])
        for name in ["c1", "r1", "B"]:
            self.assert_refused(console, InvalidCommand, name + "?")
            self.assert_refused(console, InvalidCommand, "cursor " + name)

    def test_missing_of_many_lists(self):
        console = Console()
        console.execute(" ".join(["b"] * 30))
        for row in range(2, 31, 2):
            console.execute(f"c{row}")
            self.assertEqual(console.execute("a?"), str(row))
            console.execute("a?")
        self.assertEqual(console.execute("missing a"), " ".join(f"{row}-{row}" for row in range(1, 30, 2)))
        console.execute("c29")
        self.assertEqual(self.answers(console, "lost a", "missing a", "missing b"),
                         ["29", " ".join(f"{row}-{row}" for row in range(1, 30, 2)), "-"])

    def test_sixty_events(self):
        console = Console()
        console.execute(" ".join(["b"] * 30) + " " + " ".join(f"c{row}" for row in range(30, 0, -1)))
        self.assertEqual(self.answers(console, "order", "danger 1", "danger 29", "danger 30"),
                         [listed(range(30, 0, -1)), "1 29", "1 1", "none"])
        self.assertEqual(self.assert_refused(console, TooLarge, "b").limit, 60)
        self.assertEqual(self.assert_refused(console, TooLarge, "b b c31").limit, 60)
        self.assert_refused(console, InvalidHistory, "b c1")
        self.assertEqual(self.answers(console, "a?", "undo", "undo", "order"), [listed(range(1, 31)), "ok", "ok", "-"])


class UndoTest(ConsoleCase):

    def test_runs_polls_and_resets(self):
        console = Console()
        rows = ["b b b", "c3", "a?", "a?", "c1 r2", "reset", "b", "a?", "reset", "reset", "z?"]
        seen = []
        for row in rows:
            seen.append([self.result_of(console.execute, question) for question in QUESTIONS])
            console.execute(row)
        for before in reversed(seen):
            self.assertEqual(console.execute("undo"), "ok")
            self.assertEqual([self.result_of(console.execute, question) for question in QUESTIONS], before)
        self.assert_refused(console, NothingToUndo, "undo")
        self.assertEqual(console.execute("b"), "1")

    def test_questions_are_not_reverted(self):
        console = Console()
        self.assert_refused(console, NothingToUndo, "undo")
        self.answers(console, "b b", "order", "open", "cursor a", "lost a", "missing a")
        self.assertEqual(self.answers(console, "undo", "open"), ["ok", "-"])
        self.assert_refused(console, NothingToUndo, "undo")

    def test_refused_rows_are_not_reverted(self):
        console = Console()
        console.execute("b b")
        console.execute("c2")
        for row, error in [("c2", InvalidHistory), ("b c9", InvalidHistory), ("x", InvalidCommand),
                           ("danger 1", InvalidId), ("A?", InvalidCommand),
                           (None, InvalidCommand), (" ".join(["b"] * 60), TooLarge)]:
            self.assert_refused(console, error, row)
        self.assertEqual(self.answers(console, "undo", "order", "open", "undo", "open"), ["ok", "-", "1,2", "ok", "-"])
        self.assert_refused(console, NothingToUndo, "undo")

    def test_what_is_reverted_can_be_done_again(self):
        console = Console()
        self.assertEqual(self.answers(console, "b", "undo", "b", "c1", "a?", "undo", "a?", "reset", "undo", "undo",
                                      "undo", "order", "open"),
                         ["1", "ok", "1", "ok", "1", "ok", "1", "ok", "ok", "ok", "ok", "-", "1"])


class ErrorsTest(ConsoleCase):

    def test_rows_of_no_form(self):
        console = Console()
        console.execute("b b b c2")
        rows = NO_INTEGERS + NO_LISTS + [
            "", " ", "  ", "b ", " b", "b  b", "b,b", "b\n", "\n", "b\nb", "B", "c", "r", "c0", "c01", "c-1", "c 1",
            "c1,2", "b1", "1", "x", "begin", "commit 1",
            "?", " ?", "a ?", "a? ", " a?", "a??", "?a", "A?", "a1?", "abcdefghi?", "a?b", "a? b?", "a? b", "b a?",
            "b undo", "undo b", "undo undo", "undo ",
            " undo", "Undo", "UNDO", "reset ", " reset", "reset reset", "reset b", "order a", "order ", "open a",
            "orders", "order order", "open open",
            "cursor", "cursor ", "cursor  a", "cursor A", "cursor a b", "cursor a ", " cursor a", "cursor abcdefghi",
            "cursor a?", "cursor 1", "lost", "lost ",
            "lost A", "lost a b", "missing", "missing ", "missing A", "missing 1", "Lost a", "danger", "danger ",
            "danger a", "danger -1", "danger +1",
            "danger 01", "danger 00", "danger 1 2", "danger  1", "danger 1 ", "danger 1.0", "danger " + "1" * 32,
            "danger " + "0" * 31, "danger 1" + "0" * 31,
            "cursor\na", "a?\n", "order\n", "danger 1\n", "danger \u0661", "c\u0661", "\u00e9?", "cursor \u00e9",
            "c" + str(GREATEST + 1), "b c" + "9" * 31,
            "b c" + "1" * 32, "c" + "1" * 4000, "danger " + "1" * 3990, "a" * 3999 + "?", "?" * 4000, " " * 4000,
            "cursor " + "a" * 3990, b"b", ["b"], ("b",),
        ]
        for row in rows:
            if type(row) is not str or row != "b":
                self.assertFalse(is_row(row), row)
                self.assert_refused(console, InvalidCommand, row)

    def test_errors_of_rows_of_a_form(self):
        console = Console()
        console.execute("b b b c2 r3")
        for row in ["c2", "r2", "c3", "c4", "b c5", "c" + str(GREATEST), "c1 c1", "c1 r1", "r1 c1", "b b b c7",
                    "c" + "9" * 30]:
            self.assert_refused(console, InvalidHistory, row)
        for row in ["danger 0", "danger 1", "danger 3", "danger 4", "danger " + "9" * 31, "danger " + str(GREATEST),
                    "danger " + "1" * 31]:
            self.assert_refused(console, InvalidId, row)
        for row in [" ".join(["b"] * 56), " ".join(["b"] * 2000)[:3999]]:
            self.assertEqual(self.assert_refused(console, TooLarge, row).limit, 60)
        self.assert_refused(console, InvalidHistory, " ".join(["b"] * 1990 + ["c3"]))
        self.assertEqual(console.execute(" ".join(["b"] * 55)), " ".join(str(row) for row in range(4, 59)))


class ConventionsTest(ConsoleCase):

    def test_two_consoles_share_nothing(self):
        source, pairs = random.Random(101), [(Console(), Model()) for _ in range(4)]
        for _ in range(400):
            console, model = source.choice(pairs)
            row = drawn_row(source, model.table)
            self.assertEqual(self.result_of(console.execute, row), self.result_of(model.execute, row), row)
        for console, model in pairs:
            self.assert_like(console, model, QUESTIONS)

    def test_beside_the_functions_of_the_package(self):
        source = random.Random(102)
        for _ in range(30):
            console, words = Console(), []
            for _ in range(40):
                table = LiveTable.of(parse_history(" ".join(words)))
                words.append(f"c{source.choice(table.open_ids)}" if table.open_ids and source.random() < 0.5 else "b")
                console.execute(words[-1])
            table = LiveTable.of(parse_history(" ".join(words)))
            self.assertEqual(self.answers(console, "order", "open"), [listed(table.order), listed(table.open_ids)])
            for row in table.order:
                danger = danger_of(table.order, row)
                self.assertEqual(console.execute(f"danger {row}"), f"{danger[0]} {danger[1]}" if danger else "none")

    def test_the_greatest_arguments(self):
        console = Console()
        console.execute(" ".join(["b"] * 30) + " " + " ".join(f"c{row}" for row in range(30, 0, -1)))
        for at in range(240):
            console.execute("abcdefgh"[:1 + at % 8] + "?")
        for row in QUESTIONS + ["z?", "undo", "reset", "undo"]:
            steps_of(lambda: self.result_of(console.execute, row), 30000)
        for row in [" ".join(["b"] * 2000), " ".join(["c1"] * 1333), "x " * 2000, "b " * 2000, "c" + "1" * 3999,
                    "cursor " + "a" * 3993]:
            self.assertEqual(len(self.result_of(console.execute, row)), 2)
            steps_of(lambda: self.result_of(console.execute, row), 1000000)


if __name__ == "__main__":
    unittest.main()
