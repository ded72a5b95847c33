"""Live tables: points [50] to [54], and the conventions [2] for them."""

import random
import unittest

from lateids.errors import InvalidHistory, InvalidId, InvalidName, NothingToUndo, TooLarge
from lateids.histories import open_at, order_of
from lateids.live import LiveTable
from samples import NO_INTEGERS, NO_LISTS, STRANGE, Equal, ExactCase, Odd, spoil, steps_of
from tables import BEGIN, NAMES, Model, drawn_event, drawn_events

GREATEST = 10 ** 30
FULL_HISTORY = [BEGIN] * 30 + [("commit", row) for row in range(30, 0, -1)]

WRONG_NAMES = NO_INTEGERS + NO_LISTS + [
    0, 1, "", "abcdefghi", "a" * 9, "a" * 4000, "A", "aB", "Abc", "a1", "1", "a b", " a", "a ", "a\n", "\n", "\na",
    "a?", "?", "-", "_", "a_b",
    "a.b", "{", "`", "\u00e9", "\u00df", "a\u00e4", "\u03b1", "\u0131", "\u00aa", ["a"], ("a",), {"a"}, b"a",
    "a" * 8 + " ",
]
# "begin" is no list, but a name.
WRONG_NAMES = [name for name in WRONG_NAMES if type(name) is not str or name != "begin"]


def call(table, event):
    """Make the call of an event and return what it returns."""
    if event[0] == "begin":
        return table.begin()
    return {"commit": table.commit, "rollback": table.rollback, "poll": table.poll}[event[0]](event[1])


class TableCase(ExactCase):

    def assert_like(self, table, model, names=()):
        """Check each property and each answer of a table beside a model."""
        self.assertEqual(table.order, model.order)
        self.assertEqual(table.open_ids, sorted(model.open))
        self.assertEqual(table.readers, sorted(model.got))
        self.assertEqual(len(table), len(model.events))
        for name in list(model.got) + list(names) + ["nobody"]:
            returned = model.returned(name)
            cursor = max([0] + returned)
            self.assertEqual(table.cursor_of(name), cursor)
            lost = sorted(row for row in model.order if row < cursor and row not in returned)
            self.assertEqual(table.lost_of(name), lost)

    def assert_refused(self, table, error, function, *values):
        """Check that a call raises an error, changes nothing and cannot be reverted."""
        before = table.fork()
        found = self.assert_raises_exactly(error, function, *values)
        self.assertTrue(table == before)
        self.assertEqual(len(table), len(before))
        return found


class ExamplesTest(ExactCase):

    def test_calls(self):
        table = LiveTable()
        ids = [table.begin(), table.begin(), table.begin()]
        self.assertEqual(
            [ids, table.commit(2), table.poll("a"), table.commit(1), table.commit(3), table.poll("a"), table.poll("b")],
            [[1, 2, 3], None, [2], None, None, [3], [1, 2, 3]])

    def test_run(self):
        table = LiveTable()
        self.assertEqual(table.run(("begin",), ("begin",), ("commit", 2), ("poll", "a")), [1, 2, None, [2]])

    def test_answers(self):
        table = LiveTable()
        table.run(BEGIN, BEGIN, BEGIN, ("commit", 2), ("poll", "a"), ("commit", 1))
        self.assertEqual(
            [table.cursor_of("a"), table.lost_of("a"), table.cursor_of("b"), table.order, table.open_ids, table.readers],
            [2, [1], 0, [2, 1], [3], ["a"]])

    def test_undo(self):
        table = LiveTable()
        done = [table.run(BEGIN, ("commit", 1)), table.poll("a"), table.undo(), table.cursor_of("a"), table.undo()]
        self.assertEqual([done, table.order], [[[1, None], [1], None, 0, None], []])

    def test_equal_tables(self):
        table = LiveTable.of([BEGIN, ("commit", 1)])
        other = table.fork()
        self.assertEqual([table == other, other.poll("a"), table == other, len(table), len(other), table == [1]],
                         [True, [1], False, 2, 2, False])


class CallsTest(TableCase):

    def test_up_to_three_hundred_calls(self):
        for seed in range(25):
            source, table, model = random.Random(seed), LiveTable(), Model()
            for _ in range(300):
                kind = source.random()
                if kind < 0.7:
                    event = drawn_event(source, model)
                    self.assertEqual(call(table, event), model.run([event])[0])
                elif kind < 0.8:
                    events = drawn_events(source, model, source.choice([0, 1, 2, 3, 10]))
                    self.assertEqual(table.run(*events), model.run(events))
                elif model.kept:
                    self.assertIsNone(table.undo())
                    model.undo()
                else:
                    self.assert_refused(table, NothingToUndo, table.undo)
                self.assert_like(table, model)

    def test_many_readers(self):
        table, model = LiveTable(), Model()
        source = random.Random(80)
        names = [letter * many for letter in "klmnopqrst" for many in (1, 8)]
        for at in range(150):
            event = ("poll", source.choice(names)) if at % 3 else drawn_event(source, model)
            self.assertEqual(call(table, event), model.run([event])[0])
        self.assert_like(table, model, names)
        self.assertEqual(table.readers, sorted(set(names) | set(model.got)))

    def test_answers_are_those_of_the_history(self):
        source = random.Random(81)
        for _ in range(20):
            model = Model()
            events = [event for event in drawn_events(source, model, 60) if event[0] != "poll"]
            table = LiveTable.of(events)
            self.assertEqual([table.order, table.open_ids], [order_of(events), open_at(events, len(events))])

    def test_no_events(self):
        table = LiveTable()
        self.assertEqual([table.order, table.open_ids, table.readers, len(table), table.poll("a"), table.lost_of("a")],
                         [[], [], [], 0, [], []])
        self.assertEqual([table.readers, table.cursor_of("a"), table.run()], [["a"], 0, []])

    def test_sixty_events(self):
        for history in [FULL_HISTORY, [BEGIN] * 60, [BEGIN, ("rollback", 1)] + [BEGIN] * 58]:
            table = LiveTable.of(history)
            self.assertEqual(vars(self.assert_refused(table, TooLarge, table.begin)), {"limit": 60})
            for row in table.open_ids[:3]:
                self.assertEqual(self.assert_refused(table, TooLarge, table.commit, row).limit, 60)
                self.assertEqual(self.assert_refused(table, TooLarge, table.rollback, row).limit, 60)
            for row in [0, 61, None]:
                self.assert_refused(table, InvalidId, table.commit, row)
                self.assert_refused(table, InvalidId, table.rollback, row)
            self.assertEqual(self.assert_refused(table, TooLarge, table.run, BEGIN).limit, 60)
            self.assertEqual(self.assert_refused(table, TooLarge, table.run, ("poll", "a"), BEGIN, ("poll", "b")).limit,
                             60)
            self.assert_refused(table, InvalidHistory, table.run, BEGIN, ("commit", 62))
            self.assertEqual(table.run(("poll", "a"), ("poll", "a")), [sorted(table.order), []])
            self.assertEqual(table.poll("b"), sorted(table.order))
            table.undo()
            table.undo()
            table.undo()
            self.assertEqual(len(table), 59)


class RunTest(TableCase):

    def test_all_or_none(self):
        source = random.Random(82)
        for _ in range(150):
            model = Model()
            events = drawn_events(source, model, source.choice([1, 5, 20]))
            table = LiveTable()
            table.run(*events)
            model.run(events)
            more = drawn_events(source, model, source.choice([1, 3, 8]))
            at = source.randrange(len(more))
            more[at] = source.choice([("commit", 61), ("commit", 0), ("rollback", 40), ("poll", "A"), ("poll", ""),
                                      None, "begin", ("begin", 1),
                                      ("poll",), ("poll", "a", "b"), ["begin"], ("commit", True), ("commit", Odd()),
                                      Odd(), (Odd(), 1), ()])
            self.assert_refused(table, InvalidHistory, table.run, *more)
            self.assert_like(table, model)
            table.undo()
            self.assert_like(table, Model())
            self.assert_refused(table, NothingToUndo, table.undo)

    def test_events_that_cannot_stand_there(self):
        wrong = [event for event in STRANGE if repr(event) not in [repr(BEGIN), repr(("commit", 1))]] + [
            ("commit", 1, 1), ("commit",), ("rollback",), ("rollback", 3), ("commit", 3), ("commit", 4), ("commit", -1),
            ("commit", GREATEST),
            ("poll", "A"), ("poll", "abcdefghi"), ("poll", None), ("poll", ["a"]), ("poll", 1), ("Begin",), ("begins",),
            "poll", ["poll", "a"],
            ("commit", "1"), ("commit", 1.0), ("commit", True), ("commit", None), (None, 1), (None,), ("poll", True),
            ("commit", Equal()), (Equal(), 1),
            (Odd(), "a"), (None, "a"), (1, "a"), ("", "a"), ("polls", "a"),
        ]
        table = LiveTable()
        table.run(BEGIN, BEGIN, BEGIN, ("commit", 3))
        for event in wrong:
            self.assert_refused(table, InvalidHistory, table.run, event)
            self.assert_refused(table, InvalidHistory, table.run, ("commit", 1), event)
            self.assert_refused(table, InvalidHistory, table.run, event, ("poll", "a"))
            self.assert_refused(table, InvalidHistory, table.run, event, *[BEGIN] * 70)
        for event in [("commit", 1), ("rollback", 1)]:
            for other in [("commit", 1), ("rollback", 1)]:
                self.assert_refused(table, InvalidHistory, table.run, event, other)
        self.assertEqual(table.run(BEGIN, ("commit", 4), ("commit", 1), ("rollback", 2)), [4, None, None, None])

    def test_too_many_events(self):
        table = LiveTable()
        self.assertEqual(self.assert_refused(table, TooLarge, table.run, *[BEGIN] * 61).limit, 60)
        self.assertEqual(self.assert_refused(table, TooLarge, table.run, *[BEGIN] * 60, ("commit", 60)).limit, 60)
        self.assertEqual(self.assert_refused(table, TooLarge, table.run, *[BEGIN] * 61, ("commit", 61)).limit, 60)
        self.assert_refused(table, InvalidHistory, table.run, *[BEGIN] * 61, ("commit", 62))
        answers = table.run(*[("poll", "a"), BEGIN] * 60)
        self.assertEqual([answers[::2], answers[1::2]], [[[]] * 60, list(range(1, 61))])
        self.assertEqual([len(table), table.run(*[("poll", "b")] * 100)], [60, [[]] * 100])
        table.undo()
        table.undo()
        self.assertEqual([len(table), table.readers], [0, []])


class UndoTest(TableCase):

    def test_as_often_as_possible_and_once_more(self):
        source = random.Random(83)
        for _ in range(20):
            table, model = LiveTable(), Model()
            for _ in range(60):
                events = drawn_events(source, model, source.choice([0, 1, 1, 1, 4]))
                if len(events) == 1 and source.random() < 0.7:
                    self.assertEqual([call(table, events[0])], model.run(events))
                else:
                    self.assertEqual(table.run(*events), model.run(events))
            while model.kept:
                self.assertIsNone(table.undo())
                model.undo()
                self.assert_like(table, model, NAMES)
            self.assert_refused(table, NothingToUndo, table.undo)
            self.assertTrue(table == LiveTable())
            self.assertEqual(table.begin(), 1)

    def test_what_counts(self):
        table = LiveTable()
        self.assert_raises_exactly(NothingToUndo, table.undo)
        table.run()
        self.assert_raises_exactly(NothingToUndo, table.undo)
        table.poll("a")
        table.poll("a")
        table.run()
        table.undo()
        self.assertEqual(table.readers, ["a"])
        table.undo()
        self.assertEqual(table.readers, [])
        self.assert_raises_exactly(NothingToUndo, table.undo)
        table.run(("poll", "b"))
        for refused in [lambda: table.commit(1), lambda: table.poll("B"), lambda: table.run(BEGIN, BEGIN, 1),
                        lambda: table.cursor_of("")]:
            with self.assertRaises(ValueError):
                refused()
        table.cursor_of("b"), table.lost_of("c"), table.order, table.open_ids, len(table), table.fork()
        table.undo()
        self.assertEqual(table.readers, [])
        self.assert_raises_exactly(NothingToUndo, table.undo)

    def test_a_reader_that_is_reverted_begins_anew(self):
        table = LiveTable.of([BEGIN, BEGIN, ("commit", 2)])
        self.assertEqual([table.poll("a"), table.poll("a"), table.undo(), table.undo(), table.readers],
                         [[2], [], None, None, []])
        table.commit(1)
        self.assertEqual([table.lost_of("a"), table.poll("a"), table.undo(), table.undo(), table.open_ids],
                         [[], [1, 2], None, None, [1]])


class ForksTest(TableCase):

    def test_forks_of_forks(self):
        for seed in range(12):
            source = random.Random(84 + seed)
            pairs = [(LiveTable(), Model())]
            for _ in range(250):
                table, model = source.choice(pairs)
                kind = source.random()
                if kind < 0.1 and len(pairs) < 8:
                    pairs.append((table.fork(), model.fork()))
                elif kind < 0.35 and model.kept:
                    table.undo()
                    model.undo()
                else:
                    events = drawn_events(source, model, source.choice([1, 1, 3]))
                    self.assertEqual(table.run(*events), model.run(events))
                for one, its_model in pairs:
                    self.assert_like(one, its_model)
            for one, its_model in pairs:
                for other, other_model in pairs:
                    self.assertIs(one == other, its_model.equals(other_model))
                    self.assertIs(one != other, not its_model.equals(other_model))
            for one, its_model in pairs:
                while its_model.kept:
                    one.undo()
                    its_model.undo()
                self.assert_raises_exactly(NothingToUndo, one.undo)
                self.assertTrue(one == LiveTable())

    def test_a_fork_is_another_table(self):
        table = LiveTable()
        other = table.fork()
        self.assertIsNot(table, other)
        self.assertIs(type(other), LiveTable)
        table.begin()
        self.assertEqual([len(table), len(other)], [1, 0])


class OfTest(TableCase):

    def test_each_event_can_be_reverted_by_itself(self):
        source = random.Random(85)
        histories = [[], [BEGIN], FULL_HISTORY, [BEGIN, ("rollback", 1)] * 1]
        histories += [[event for event in drawn_events(source, Model(), many) if event[0] != "poll"]
                      for many in [3, 10, 40, 80]]
        for history in histories:
            table = LiveTable.of(history)
            for left in range(len(history), -1, -1):
                model = Model()
                model.run(history[:left])
                self.assert_like(table, model)
                self.assertTrue(table == LiveTable.of(history[:left]))
                if left:
                    table.undo()
            self.assert_refused(table, NothingToUndo, table.undo)

    def test_a_history_may_be_changed_later(self):
        history = [BEGIN, BEGIN, ("commit", 2)]
        table = LiveTable.of(history)
        history[2] = ("commit", 1)
        history.append(BEGIN)
        self.assertEqual([table.order, len(table), table.begin()], [[2], 3, 3])
        self.assertEqual(history, [BEGIN, BEGIN, ("commit", 1), BEGIN])
        events = [BEGIN, ("poll", "a")]
        table.run(*events)
        events.clear()
        table.undo()
        self.assertEqual([len(table), table.readers], [4, []])

    def test_wrong_histories(self):
        wrong = NO_LISTS + [
            [("commit", 1)], [BEGIN, ("commit", 2)], [BEGIN, ("commit", 1), ("rollback", 1)], [BEGIN] * 61,
            [BEGIN, ("poll", "a")], [("poll", "a")],
            (BEGIN,), [[BEGIN]], [["begin"]], ["begin"], [None], [Odd()], [BEGIN, ("commit", True)],
            [BEGIN, ("commit", 1.0)], [BEGIN, Equal()],
            FULL_HISTORY + [BEGIN], FULL_HISTORY[1:],
        ]
        for history in wrong:
            self.assert_raises_exactly(InvalidHistory, LiveTable.of, history)


class EqualTest(TableCase):

    def tables(self):
        """Return tables that differ from each other in one thing, most of them in one thing alone."""
        runs = [
            [], [BEGIN], [BEGIN, BEGIN], [BEGIN, ("commit", 1)], [BEGIN, ("rollback", 1)],
            [BEGIN, BEGIN, ("commit", 1)], [BEGIN, BEGIN, ("commit", 2)],
            [BEGIN, BEGIN, ("commit", 1), ("commit", 2)], [BEGIN, BEGIN, ("commit", 2), ("commit", 1)],
            [BEGIN, BEGIN, ("commit", 2), ("rollback", 1)],
            [("poll", "a")], [("poll", "b")], [("poll", "a"), ("poll", "b")], [BEGIN, ("commit", 1), ("poll", "a")],
            [BEGIN, ("poll", "a"), ("commit", 1)],
            [BEGIN, ("commit", 1), ("poll", "b")], [BEGIN, BEGIN, ("commit", 2), ("poll", "a"), ("commit", 1)],
            [BEGIN, BEGIN, ("commit", 2), ("commit", 1), ("poll", "a")],
            [BEGIN, BEGIN, ("rollback", 2), ("rollback", 1)], [BEGIN, ("rollback", 1), BEGIN],
        ]
        tables = []
        for run in runs:
            table = LiveTable()
            table.run(*run)
            tables.append(table)
        return tables

    def test_tables_that_differ(self):
        tables = self.tables()
        for at, one in enumerate(tables):
            for place, other in enumerate(tables):
                self.assertIs(one == other, at == place, (at, place))
                self.assertIs(one != other, at != place)

    def test_equal_tables_made_in_different_ways(self):
        one = LiveTable()
        one.begin(), one.begin(), one.poll("b"), one.commit(1), one.poll("a"), one.commit(2), one.poll("a"), one.poll("b")
        other = LiveTable()
        other.run(BEGIN, ("poll", "a"), ("commit", 1), BEGIN, ("commit", 2), ("poll", "a"), ("poll", "a"), ("poll", "b"))
        third = LiveTable.of([BEGIN, BEGIN, ("commit", 1), ("commit", 2)])
        third.poll("b"), third.begin(), third.undo(), third.poll("a")
        for table in [one, other, third]:
            self.assertEqual([table == one, table == other, table == third, table == third.fork(), table != one],
                             [True, True, True, True, False])
        # Rolled back in another sequence, and ended at other times.
        one, other = LiveTable.of([BEGIN, BEGIN, ("rollback", 1),
                                   ("rollback", 2)]), LiveTable.of([BEGIN, ("rollback", 1), BEGIN, ("rollback", 2)])
        self.assertTrue(one == other)
        self.assertEqual(len(one), len(other))

    def test_other_values(self):
        table = LiveTable()
        for value in NO_INTEGERS + NO_LISTS + [0, [], [[]], "a", object(), LiveTable, Equal(), Odd()]:
            self.assertIs(table == value, False)
            self.assertIs(table != value, True)


class ErrorsTest(TableCase):

    def test_wrong_ids(self):
        table = LiveTable()
        table.run(*[BEGIN] * 5, ("commit", 3), ("rollback", 2))
        for row in NO_INTEGERS + NO_LISTS[4:] + [0, -1, 2, 3, 6, 31, GREATEST, -GREATEST, 10 ** 40]:
            if type(row) is not int or row not in (1, 4, 5):
                self.assert_refused(table, InvalidId, table.commit, row)
                self.assert_refused(table, InvalidId, table.rollback, row)
        for row in (1, 4, 5):
            self.assertIsNone(table.commit(row))

    def test_wrong_names(self):
        table = LiveTable.of([BEGIN, BEGIN, ("commit", 2)])
        for name in WRONG_NAMES:
            for function in [table.poll, table.cursor_of, table.lost_of]:
                self.assert_refused(table, InvalidName, function, name)
            self.assert_refused(table, InvalidHistory, table.run, ("poll", name))
        for name in sorted(set(NAMES) | set("abcdefghijklmnopqrstuvwxyz")):
            self.assertEqual([table.cursor_of(name), table.lost_of(name), table.poll(name)], [0, [], [2]])

    def test_refused_calls_cannot_be_reverted(self):
        table = LiveTable()
        table.begin()
        for _ in range(3):
            self.assert_raises_exactly(InvalidId, table.commit, 2)
            self.assert_raises_exactly(InvalidName, table.poll, "")
            self.assert_raises_exactly(InvalidHistory, table.run, BEGIN, None)
        table.undo()
        self.assertEqual(len(table), 0)
        self.assert_raises_exactly(NothingToUndo, table.undo)


class ConventionsTest(TableCase):

    def test_results_are_new(self):
        source = random.Random(86)
        table, model = LiveTable(), Model()
        events = drawn_events(source, model, 50)
        spoil(table.run(*events))
        model.run(events)
        for name in NAMES:
            spoil(table.poll(name))
            model.run([("poll", name)])
            spoil(table.lost_of(name))
        for _ in range(2):
            self.assert_like(table, model, NAMES)
            spoil(table.order)
            spoil(table.open_ids)
            spoil(table.readers)
            self.assert_like(table.fork(), model, NAMES)

    def test_kinds_of_results(self):
        table = LiveTable()
        kinds = [type(table.begin()), type(table.commit(1)), type(table.poll("a")), type(table.run()),
                 type(table.cursor_of("a")),
                 type(table.lost_of("a")), type(table.order), type(table.open_ids), type(table.readers),
                 type(len(table)), type(table == table)]
        self.assertEqual(kinds, [int, type(None), list, list, int, list, list, list, list, int, bool])

    def test_the_greatest_arguments(self):
        table = LiveTable.of(FULL_HISTORY[:59])
        for at in range(240):
            table.poll(NAMES[at % 6])
        steps_of(lambda: table.commit(1), 20000)
        steps_of(lambda: table.undo(), 2000)
        steps_of(lambda: table.poll("a"), 20000)
        steps_of(lambda: table.run(*[("poll", "b")] * 50), 200000)
        steps_of(lambda: table.lost_of("a"), 20000)
        steps_of(lambda: [table.order, table.open_ids, table.readers, len(table)], 20000)
        steps_of(lambda: table.fork() == table, 50000)
        steps_of(lambda: LiveTable.of(FULL_HISTORY), 20000)


if __name__ == "__main__":
    unittest.main()
