"""Rounds: points [13] and [47] to [49], and the conventions [2] for them."""

import itertools
import random
import unittest

from lateids.errors import InvalidNumber, InvalidRound
from lateids.rounds import far_cursor, far_lost, is_round, lost_rate, written_out
from samples import NO_INTEGERS, NO_LISTS, STRANGE, Equal, ExactCase, Odd, changed, steps_of
from tables import BEGIN, LATE, POLL, ROUNDS, Table

GREATEST = 10 ** 30

WRONG_STEPS = NO_INTEGERS + NO_LISTS + [
    ("commit",), ("commit", -1), ("commit", 100), ("commit", GREATEST), ("commit", True), ("commit", False),
    ("commit", None),
    ("commit", 0.0), ("commit", "0"), ("commit", (0,)), ("commit", 0, 0), ("begin", 0), ("begin", None), ("poll", 0),
    ("poll", "a"),
    ("rollback", 0), ("rollback",), ("Begin",), ("begin ",), "begin", "poll", ["begin"], ["poll"], ["commit", 0],
    (("begin",),),
    (None,), (0,), (Odd(),), (Odd(), 0), ("commit", Odd()), (Equal(),), (Equal(), 0), ("commit", Equal()),
    ("commit", [0]), ("", 0), ("begins",),
]
WRONG_ROUNDS = NO_LISTS + [
    [], [BEGIN] * 21, [POLL] * 21, LATE * 5, [POLL] * 400, [Odd()] * 400, (BEGIN,), tuple(LATE), [LATE], [[BEGIN]],
    [("commit", 0)],
    [POLL, ("commit", 5)], [("commit", 0), ("commit", 1)], [BEGIN, ("commit", 0), ("commit", 0)],
    [BEGIN, ("commit", 3), ("commit", 99)],
    LATE + [("commit", 2)], LATE + [("commit", 0)], [("commit", 0), BEGIN, ("commit", 0)],
    [BEGIN, BEGIN, ("commit", 1), ("commit", 99)],
] + [[step] for step in WRONG_STEPS] + [[BEGIN, POLL, step] for step in WRONG_STEPS]


def plainly_a_round(value):
    """Return whether any value is a round; whether an id is committed twice is tried for many rounds."""
    if type(value) is not list or not 1 <= len(value) <= 20:
        return False
    for step in value:
        if type(step) is not tuple or not step or type(step[0]) is not str:
            return False
        if step not in (BEGIN, POLL) and (len(step) != 2 or step[0] != "commit" or type(step[1]) is not int
                                          or not 0 <= step[1] <= 99):
            return False
    if BEGIN not in value:
        return all(step == POLL for step in value)
    table = Table()
    for _ in range(103):
        table.repeat([step for step in value if step != POLL])
    return len(table.committed) == len(set(table.committed))


class ExamplesTest(ExactCase):

    def test_rounds(self):
        self.assertEqual([is_round(LATE), is_round(LATE + [("commit", 2)]), is_round([("commit", 0)]),
                          is_round([("poll",)])],
                         [True, False, False, True])

    def test_far_away(self):
        self.assertEqual([far_lost(LATE, 10 ** 30) == 10 ** 30, far_cursor(LATE, 5), lost_rate(LATE)], [True, 10, 1])

    def test_written_out(self):
        self.assertEqual([written_out([BEGIN, ("commit", 2), POLL], 4), written_out(LATE, 3)],
                         [[[], [], [1], [2]], [[2], [4], [6]]])


class IsRoundTest(ExactCase):

    def test_right_and_wrong_values(self):
        for steps in ROUNDS:
            self.assertTrue(plainly_a_round(steps), steps)
            self.assertIs(is_round(steps), True, steps)
        for value in WRONG_ROUNDS:
            self.assertIs(is_round(value), False)

    def test_all_short_rounds(self):
        kinds = [BEGIN, POLL] + [("commit", back) for back in [0, 1, 2, 3, 99]]
        for many in range(5):
            for steps in itertools.product(kinds, repeat=many):
                if many < 4 or [step[0] for step in steps].count("commit") == 2:
                    self.assertIs(is_round(list(steps)), plainly_a_round(list(steps)), steps)

    def test_one_change(self):
        source, right, wrong = random.Random(71), 0, 0
        for steps in ROUNDS:
            for _ in range(12):
                value = changed(source, steps)
                if type(value) is list and value and source.random() < 0.3:
                    value[source.randrange(len(value))] = ("commit", source.randint(0, 100))
                expected = plainly_a_round(value)
                self.assertIs(is_round(value), expected, value)
                right, wrong = right + expected, wrong + (not expected)
        self.assertTrue(right > 500 and wrong > 1000, (right, wrong))


class PlayedTest(ExactCase):
    """Beside a table on which the rounds are played."""

    def test_from_one_to_many_rounds(self):
        for steps in ROUNDS:
            table = Table()
            for times in range(1, 131):
                table.repeat(steps)
                if times < 12 or times % 13 == 0 or 98 <= times <= 102:
                    self.assertEqual([far_lost(steps, times), far_cursor(steps, times)], [table.lost(), table.cursor],
                                     (steps, times))
            near = far_lost(steps, 130)
            self.assertEqual(near - far_lost(steps, 129), lost_rate(steps), steps)
            cursor = far_cursor(steps, 130)
            for times in [131, 1000, 10 ** 9, 10 ** 29 + 7, GREATEST]:
                self.assertEqual(far_lost(steps, times), near + (times - 130) * lost_rate(steps), steps)
                grown = steps.count(BEGIN) * (times - 130) if cursor else 0
                self.assertEqual(far_cursor(steps, times), cursor + grown, steps)

    def test_all_times_of_some_rounds(self):
        for steps in ROUNDS[:40]:
            table = Table()
            for times in range(1, 131):
                table.repeat(steps)
                self.assertEqual([far_lost(steps, times), far_cursor(steps, times)], [table.lost(), table.cursor],
                                 (steps, times))

    def test_all_short_rounds(self):
        kinds = [BEGIN, POLL] + [("commit", back) for back in [0, 1, 2, 4]]
        for steps in itertools.product(kinds, repeat=5):
            steps = list(steps)
            if steps.count(BEGIN) > 1 and is_round(steps):
                table, seen = Table(), []
                for times in range(1, 9):
                    table.repeat(steps)
                    seen.append([table.lost(), table.cursor])
                self.assertEqual([[far_lost(steps, times), far_cursor(steps, times)] for times in range(1, 9)], seen,
                                 steps)
                self.assertEqual(lost_rate(steps), seen[7][0] - seen[6][0])
                self.assertEqual(written_out(steps, 8), table.lists)

    def test_written_out(self):
        for steps in ROUNDS:
            table = Table()
            for times in range(1, 41):
                table.repeat(steps)
                if times in (1, 2, 3, 7, 20, 39, 40):
                    self.assertEqual(written_out(steps, times), table.lists, (steps, times))

    def test_a_round_written_twice(self):
        for steps in ROUNDS:
            if len(steps) <= 10:
                twice = steps * 2
                self.assertIs(is_round(twice), True)
                self.assertEqual(lost_rate(twice), 2 * lost_rate(steps))
                for times in [1, 2, 5, 20]:
                    self.assertEqual(written_out(twice, times), written_out(steps, 2 * times))
                for times in [1, 2, 5, 20, 50, 10 ** 20, GREATEST // 2]:
                    self.assertEqual([far_lost(twice, times), far_cursor(twice, times)],
                                     [far_lost(steps, 2 * times), far_cursor(steps, 2 * times)], (steps, times))

    def test_known_rounds(self):
        for steps in [[BEGIN], [POLL], [BEGIN] * 20, [POLL] * 20, [BEGIN, POLL], [BEGIN, ("commit", 0)]]:
            for times in [1, 40, GREATEST]:
                self.assertEqual([far_lost(steps, times), far_cursor(steps, times), lost_rate(steps)], [0, 0, 0])
        self.assertEqual([written_out([BEGIN], 40), written_out([POLL], 2), written_out([POLL] * 3, 1)],
                         [[], [[], []], [[], [], []]])
        self.assertEqual([far_cursor([BEGIN, ("commit", 99), POLL], times) for times in [98, 99, 100, 101, GREATEST]],
                         [0, 0, 1, 2, GREATEST - 99])
        late = [BEGIN, BEGIN, ("commit", 0), POLL, ("commit", 99)]
        self.assertEqual([far_lost(late, times) for times in [1, 49, 50, 51, GREATEST]], [0, 0, 1, 2, GREATEST - 49])
        self.assertEqual([far_cursor(late, 1), lost_rate(late)], [2, 1])
        worst = [BEGIN] * 9 + [("commit", 0), POLL] + [("commit", back) for back in range(1, 9)]
        self.assertEqual([far_lost(worst, GREATEST), lost_rate(worst), far_cursor(worst, GREATEST)],
                         [8 * GREATEST, 8, 9 * GREATEST])


class ErrorsTest(ExactCase):

    def test_wrong_rounds_come_first(self):
        for steps in WRONG_ROUNDS:
            self.assert_raises_exactly(InvalidRound, lost_rate, steps)
            for times in [1, 40, 0, None, Odd()]:
                for function in [far_lost, far_cursor, written_out]:
                    self.assert_raises_exactly(InvalidRound, function, steps, times)

    def test_wrong_times(self):
        for steps in ROUNDS[:30]:
            for times in NO_INTEGERS + [0, -1, -GREATEST, GREATEST + 1, 10 ** 40]:
                for function in [far_lost, far_cursor, written_out]:
                    self.assert_raises_exactly(InvalidNumber, function, steps, times)
            for times in [41, 42, 100, GREATEST]:
                self.assert_raises_exactly(InvalidNumber, written_out, steps, times)

    def test_right_arguments_raise_nothing(self):
        for steps in ROUNDS:
            for times in [1, 2, 41, GREATEST - 1, GREATEST]:
                self.assertEqual([type(far_lost(steps, times)), type(far_cursor(steps, times))], [int, int])
            self.assertEqual([type(lost_rate(steps)), type(written_out(steps, 1)), type(written_out(steps, 40))],
                             [int, list, list])
        for value in STRANGE:
            self.assertIs(is_round(value), False)


class ConventionsTest(ExactCase):

    def test_results_are_new_and_arguments_stay(self):
        for steps in ROUNDS:
            self.assert_unchanged(is_round, steps)
            self.assert_unchanged(lost_rate, steps)
            for times in [1, 5, 40]:
                for function in [far_lost, far_cursor, written_out]:
                    self.assert_unchanged(function, steps, times)

    def test_changed_rounds_are_read_anew(self):
        steps = list(LATE)
        self.assertEqual([far_lost(steps, 5), far_cursor(steps, 5), lost_rate(steps), written_out(steps, 2)],
                         [5, 10, 1, [[2], [4]]])
        steps[3], steps[4] = steps[4], steps[3]
        self.assertEqual([far_lost(steps, 5), far_cursor(steps, 5), lost_rate(steps), written_out(steps, 2)],
                         [0, 10, 0, [[1, 2], [3, 4]]])
        steps.append(("commit", 2))
        self.assertIs(is_round(steps), False)
        self.assert_raises_exactly(InvalidRound, far_lost, steps, 5)
        steps.append(BEGIN)
        self.assertIs(is_round(steps), plainly_a_round(steps))

    def test_the_greatest_arguments(self):
        greatest = [[BEGIN] * 9 + [POLL, POLL] + [("commit", 10 * back) for back in range(9)],
                    [BEGIN, POLL] * 9 + [("commit", 98), ("commit", 99)],
                    [BEGIN] * 6 + [("commit", back) for back in range(6)] + [POLL] * 8]
        for steps in greatest + sorted(ROUNDS, key=len)[-5:]:
            steps_of(lambda: is_round(steps), 5000)
            for times in [1, GREATEST]:
                steps_of(lambda: far_lost(steps, times), 20000)
                steps_of(lambda: far_cursor(steps, times), 20000)
            steps_of(lambda: lost_rate(steps), 20000)
            steps_of(lambda: written_out(steps, 40), 60000)


if __name__ == "__main__":
    unittest.main()
