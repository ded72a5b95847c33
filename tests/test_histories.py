"""Histories: points [9] and [14] to [16], and the conventions [2] for them."""

import itertools
import random
import unittest

from lateids.errors import InvalidHistory, InvalidPosition
from lateids.histories import is_history, open_at, order_of, safe_at, spans
from samples import NO_INTEGERS, NO_LISTS, Equal, ExactCase, Odd, steps_of
from tables import BEGIN, random_histories


def commit(row):
    return ("commit", row)


def rollback(row):
    return ("rollback", row)


def replay(events):
    """Return what holds behind each event, or None at the first that cannot stand there."""
    states = {}
    found = [dict(states)]
    for word, *rest in events:
        if word == "begin":
            states[len(states) + 1] = "open"
        elif states.get(rest[0]) == "open":
            states[rest[0]] = word
        else:
            return None
        found.append(dict(states))
    return found


def short_lists(most):
    """Return all lists of at most so many events with small ids."""
    events = [BEGIN] + [(word, row) for word in ["commit", "rollback"] for row in [0, 1, 2, 3]]
    return [list(chosen) for many in range(most + 1) for chosen in itertools.product(events, repeat=many)]


WRONG_EVENTS = [
    None, True, 0, 1, "begin", "", b"begin", 1.5, [], ["begin"], ["commit", 1], {}, {"begin"}, Odd(), Equal(), object(),
    (), (1,), (None,), (True,), (Odd(),), (Equal(),), ((),), (BEGIN,), (["begin"],), (b"begin",),
    ("commit",), ("rollback",), ("begun",), ("",), ("Begin",), ("begin ",), ("poll",), ("poll", "a"), ("poll", 1),
    ("begin", 1), ("begin", None), ("begin", 1, 1), ("commit", 1, 1), ("rollback", 1, 1), ("commit", 1, None),
    ("Commit", 1), ("abort", 1), ("", 1), (1, 1), (None, 1), (1, "commit"), (Odd(), 1), (Equal(), 1), (("commit",), 1),
    (b"commit", 1), (["commit"], 1),
    commit(0), commit(-1), commit(2), commit(60), commit(10 ** 30), commit(10 ** 30 + 1), commit(-10 ** 30),
    rollback(0), rollback(-1), rollback(2), rollback(10 ** 31),
] + [(word, value) for word in ["commit", "rollback"] for value in NO_INTEGERS]

WRONG_HISTORIES = NO_LISTS + [[event] for event in WRONG_EVENTS] + [[BEGIN, event] for event in WRONG_EVENTS] + [
    (BEGIN,), (BEGIN, commit(1)), [[BEGIN]], [[]], [BEGIN, [BEGIN]], BEGIN,
    [BEGIN] * 61,
    [event for row in range(1, 31) for event in [BEGIN, commit(row)]] + [BEGIN],
    [commit(1), BEGIN], [rollback(1), BEGIN],
    [commit(1)], [rollback(1)],
    [BEGIN, commit(1), commit(1)], [BEGIN, commit(1), rollback(1)],
    [BEGIN, rollback(1), commit(1)], [BEGIN, rollback(1), rollback(1)],
    [BEGIN, BEGIN, commit(2), BEGIN, commit(2)],
    [BEGIN, BEGIN, commit(3), BEGIN],
    [BEGIN, commit(1)] + [BEGIN] * 58 + [commit(1)],
]

RIGHT_HISTORIES = [
    [], [BEGIN], [BEGIN, commit(1)], [BEGIN, rollback(1)],
    [BEGIN, BEGIN, commit(2), rollback(1)],
    [BEGIN] * 60,
    [event for row in range(1, 31) for event in [BEGIN, commit(row)]],
    [BEGIN] * 30 + [commit(row) for row in range(30, 0, -1)],
    [BEGIN] * 59 + [rollback(59)],
]


class IsHistoryTest(ExactCase):

    def test_example(self):
        history = [BEGIN, BEGIN, BEGIN, ("commit", 3), ("rollback", 2), ("commit", 1)]
        self.assertEqual(
            [is_history(history), is_history([BEGIN, ("commit", 2)]), is_history([]), order_of(history)],
            [True, False, True, [3, 1]])

    def test_right_histories(self):
        for history in RIGHT_HISTORIES + random_histories():
            self.assertIs(is_history(history), True, history)

    def test_wrong_values(self):
        for value in WRONG_HISTORIES:
            self.assertIs(is_history(value), False)

    def test_wrong_events_anywhere_in_a_longer_history(self):
        history = [BEGIN, BEGIN, commit(2), BEGIN, rollback(1)]
        for event in [None, Odd(), commit(0), commit(9), commit(True), ("begin", 1), [BEGIN], "begin"]:
            for position in range(len(history) + 1):
                self.assertIs(is_history(history[:position] + [event] + history[position:]), False)

    def test_a_list_that_contains_itself_is_none(self):
        value = []
        value.append(value)
        self.assertIs(is_history(value), False)

    def test_all_short_lists(self):
        for events in short_lists(4):
            self.assertIs(is_history(events), replay(events) is not None, events)

    def test_limit_of_sixty_events(self):
        self.assertIs(is_history([BEGIN] * 60), True)
        self.assertIs(is_history([BEGIN] * 61), False)
        self.assertIs(is_history([BEGIN] * 30 + [commit(row) for row in range(1, 31)]), True)
        self.assertIs(is_history([BEGIN] * 31 + [commit(row) for row in range(1, 31)]), False)

    def test_each_id_is_ended_once(self):
        for first, second in itertools.product([commit, rollback], repeat=2):
            self.assertIs(is_history([BEGIN, first(1), second(1)]), False)
            self.assertIs(is_history([BEGIN, BEGIN, first(1), second(2)]), True)
            self.assertIs(is_history([BEGIN, BEGIN, first(2), BEGIN, second(2)]), False)

    def test_value_is_not_modified_and_read_anew(self):
        history = [BEGIN]
        self.assertIs(is_history(history), True)
        history.append(commit(2))
        self.assertIs(is_history(history), False)
        self.assertEqual(history, [BEGIN, commit(2)])
        history[1] = commit(1)
        self.assertIs(is_history(history), True)


class OrderOfTest(ExactCase):

    def test_commits_in_their_order(self):
        self.assertEqual(order_of([]), [])
        self.assertEqual(order_of([BEGIN, rollback(1)]), [])
        self.assertEqual(order_of([BEGIN] * 3 + [commit(2), commit(3), commit(1)]), [2, 3, 1])
        self.assertEqual(order_of([BEGIN] * 30 + [commit(row) for row in range(30, 0, -1)]), list(range(30, 0, -1)))

    def test_beside_a_replay(self):
        for history in random_histories():
            self.assertEqual(order_of(history), [event[1] for event in history if event[0] == "commit"])

    def test_wrong_histories(self):
        for value in WRONG_HISTORIES:
            self.assert_raises_exactly(InvalidHistory, order_of, value)


class OpenAndSafeTest(ExactCase):

    def test_example(self):
        history = [BEGIN, BEGIN, BEGIN, ("commit", 1), ("rollback", 2), ("commit", 3)]
        self.assertEqual(
            [[open_at(history, position) for position in [0, 3, 5, 6]],
             [safe_at(history, position) for position in [0, 3, 4, 5, 6]]],
            [[[], [1, 2, 3], [3], []], [0, 0, 1, 2, 3]])

    def test_rows_that_end_late_soon_or_never(self):
        history = [BEGIN, BEGIN, commit(2), BEGIN, rollback(3), BEGIN, commit(1)]
        self.assertEqual([open_at(history, position) for position in range(8)],
                         [[], [1], [1, 2], [1], [1, 3], [1], [1, 4], [4]])
        self.assertEqual([safe_at(history, position) for position in range(8)], [0, 0, 0, 0, 0, 0, 0, 3])

    def test_all_positions_beside_a_replay(self):
        short = [events for events in short_lists(4) if replay(events) is not None]
        for history in short + random_histories():
            for position, states in enumerate(replay(history)):
                still = [row for row in sorted(states) if states[row] == "open"]
                self.assertEqual(open_at(history, position), still)
                safe = 0
                while safe + 1 in states and states[safe + 1] != "open":
                    safe += 1
                self.assertEqual(safe_at(history, position), safe)

    def test_no_id_up_to_the_safe_one_commits_later(self):
        for history in random_histories():
            for position in range(len(history) + 1):
                later = [event[1] for event in history[position:] if event[0] == "commit"]
                self.assertTrue(all(row > safe_at(history, position) for row in later))

    def test_wrong_histories_come_first(self):
        for function in [open_at, safe_at]:
            for value in WRONG_HISTORIES:
                for position in [0, -1, None, True, Odd()]:
                    self.assert_raises_exactly(InvalidHistory, function, value, position)

    def test_wrong_positions(self):
        for function in [open_at, safe_at]:
            for history in RIGHT_HISTORIES:
                wrong = [-1, -2, -len(history) - 1, len(history) + 1, 61, 62, 10 ** 30, -10 ** 30]
                for position in NO_INTEGERS + wrong:
                    self.assert_raises_exactly(InvalidPosition, function, history, position)

    def test_position_is_of_the_events_not_of_the_ids(self):
        self.assertEqual(open_at([BEGIN, commit(1)], 2), [])
        self.assert_raises_exactly(InvalidPosition, open_at, [BEGIN, commit(1)], 3)


class SpansTest(ExactCase):

    def test_example(self):
        self.assertEqual(spans([BEGIN, BEGIN, BEGIN, ("commit", 3), ("rollback", 2), ("commit", 1)]), {1: 2, 3: 0})

    def test_edges(self):
        self.assertEqual(spans([]), {})
        self.assertEqual(spans([BEGIN] * 60), {})
        self.assertEqual(spans([BEGIN, rollback(1)]), {})
        self.assertEqual(spans([BEGIN, commit(1)]), {1: 0})
        self.assertEqual(spans([BEGIN] * 59 + [commit(1)]), {1: 58})
        self.assertEqual(spans([BEGIN, BEGIN, rollback(2), commit(1)]), {1: 1})
        self.assertEqual(spans([BEGIN, commit(1), BEGIN, BEGIN]), {1: 0})

    def test_beside_the_events_between(self):
        for history in random_histories():
            expected = {}
            for row in sorted(order_of(history)):
                begins = [position for position, event in enumerate(history) if event == BEGIN]
                between = history[begins[row - 1] + 1:history.index(commit(row))]
                expected[row] = between.count(BEGIN)
            self.assertEqual(spans(history), expected)

    def test_keys_are_ascending(self):
        history = [BEGIN] * 30 + [commit(row) for row in range(30, 0, -1)]
        self.assertEqual(list(spans(history)), list(range(1, 31)))
        self.assertEqual(list(spans([BEGIN] * 3 + [commit(2), commit(3), commit(1)]).items()), [(1, 2), (2, 1), (3, 0)])
        for other in random_histories():
            self.assertEqual(list(spans(other)), sorted(order_of(other)))

    def test_wrong_histories(self):
        for value in WRONG_HISTORIES:
            self.assert_raises_exactly(InvalidHistory, spans, value)


def long_histories():
    """Return histories of forty to sixty events with many commits."""
    source = random.Random(16)
    histories = []
    for rows in range(20, 31):
        ids = list(range(1, rows + 1))
        for order in [ids, ids[::-1], source.sample(ids, rows)]:
            histories.append([BEGIN] * rows + [commit(row) for row in order])
        histories.append([event for row in ids for event in [BEGIN, commit(row)]])
        histories.append([BEGIN] + [event for row in ids[1:] for event in [BEGIN, commit(row)]] + [rollback(1)])
    return histories


class LongHistoriesTest(ExactCase):

    def test_beside_a_replay(self):
        for history in long_histories():
            order = [event[1] for event in history if event[0] == "commit"]
            self.assertEqual(order_of(history), order)
            begins = [position for position, event in enumerate(history) if event == BEGIN]
            expected = {row: history[begins[row - 1] + 1:history.index(commit(row))].count(BEGIN) for row in sorted(order)}
            self.assertEqual(list(spans(history).items()), list(expected.items()))
            for position, found in enumerate(replay(history)):
                still = [row for row in sorted(found) if found[row] == "open"]
                self.assertEqual(open_at(history, position), still)
                self.assertEqual(safe_at(history, position), still[0] - 1 if still else len(found))
            for position in [-1, len(history) + 1, None, True, Odd()]:
                self.assert_raises_exactly(InvalidPosition, open_at, history, position)
                self.assert_raises_exactly(InvalidPosition, safe_at, history, position)

    def test_one_event_more_that_cannot_stand_there(self):
        source = random.Random(61)
        for history in long_histories():
            for event in [BEGIN, commit(1), commit(19), rollback(7), commit(30), commit(31), commit(0), None, Odd()]:
                at = source.randint(0, len(history))
                events = history[:at] + [event] + history[at:]
                wrong = not isinstance(event, tuple) or len(events) > 60 or replay(events) is None
                self.assertIs(is_history(events), not wrong)
                if not wrong:
                    continue
                for function in [order_of, spans]:
                    self.assert_raises_exactly(InvalidHistory, function, events)
                for function in [open_at, safe_at]:
                    for position in [0, len(events), -1, None, Odd()]:
                        self.assert_raises_exactly(InvalidHistory, function, events, position)

    def test_twice_as_many_events_take_about_twice_as_long(self):
        short = [BEGIN] * 15 + [commit(row) for row in range(1, 16)]
        long = [BEGIN] * 30 + [commit(row) for row in range(1, 31)]
        mixed = [event for row in range(1, 16) for event in [BEGIN, commit(row)]]
        longer = [event for row in range(1, 31) for event in [BEGIN, commit(row)]]
        for less, more in [(short, long), (mixed, longer)]:
            for function in [is_history, order_of, spans]:
                self.assertLess(steps_of(lambda: function(more)), 2.3 * steps_of(lambda: function(less)))
            for function in [open_at, safe_at]:
                steps = steps_of(lambda: function(less, len(less)))
                self.assertLess(steps_of(lambda: function(more, len(more))), 2.3 * steps)

    def test_each_event_takes_few_steps(self):
        for history in long_histories():
            most = 200 * len(history)
            for function in [is_history, order_of, spans]:
                steps_of(lambda: function(history), most)
            for function in [open_at, safe_at]:
                for position in [0, len(history) // 2, len(history)]:
                    steps_of(lambda: function(history, position), most)


class ConventionsTest(ExactCase):

    def test_results_are_new_and_arguments_stay(self):
        for history in RIGHT_HISTORIES + random_histories():
            self.assert_unchanged(order_of, history)
            self.assert_unchanged(spans, history)
            for position in [0, len(history) // 2, len(history)]:
                self.assert_unchanged(open_at, history, position)
                self.assert_unchanged(safe_at, history, position)

    def test_changed_arguments_are_read_anew(self):
        history = [BEGIN, BEGIN, commit(2)]
        seen = [order_of(history), open_at(history, 3), safe_at(history, 3), spans(history)]
        self.assertEqual(seen, [[2], [1], 0, {2: 0}])
        history[2] = commit(1)
        seen = [order_of(history), open_at(history, 3), safe_at(history, 3), spans(history)]
        self.assertEqual(seen, [[1], [2], 1, {1: 1}])
        history[2] = commit(3)
        self.assert_raises_exactly(InvalidHistory, order_of, history)
        history.pop()
        self.assert_raises_exactly(InvalidPosition, open_at, history, 3)


if __name__ == "__main__":
    unittest.main()
