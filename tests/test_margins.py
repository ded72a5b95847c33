"""Margins: points [30] to [32], and the conventions [2] for them."""

import itertools
import random
import unittest

from lateids.errors import InvalidNumber, InvalidOrder, InvalidPolls
from lateids.margins import greatest_reach, least_overlap, least_wait, reaches, waits
from lateids.readers import lost_ids
from orders import (
    ALL_ORDERS, EXAMPLE, GREATEST, WRONG_ORDERS, all_polls, drawn_polls, played, some_orders, wrong_polls,
)
from samples import NO_INTEGERS, ExactCase, Odd, steps_of

FULL = list(range(1, 31))
OF_POLLS = [reaches, waits]
WITH_MOST = [least_overlap, least_wait]


class ExamplesTest(ExactCase):

    def test_reaches_and_waits(self):
        self.assertEqual(
            [reaches(EXAMPLE, [1, 4, 7]), waits(EXAMPLE, [1, 3, 4, 7]), reaches(EXAMPLE, [1, 4])],
            [{1: 2, 3: 3}, {1: 1, 3: 2}, {1: 2, 3: None}])

    def test_least_margins(self):
        polls = [1, 3, 4, 7]
        self.assertEqual(
            [[least_overlap(EXAMPLE, polls, most), least_wait(EXAMPLE, polls, most)] for most in range(3)],
            [[3, 2], [2, 1], [1, 0]])

    def test_greatest_reach(self):
        self.assertEqual([greatest_reach(order) for order in [EXAMPLE, [1, 5, 9], [10 ** 30, 1], []]],
                         [3, 1, 1000000000000000000000000000000, 1])


class BesideTheReadersTest(ExactCase):

    def check_needs(self, order, polls):
        """Check that each id is read with its margin, lost with one less, and lost for ever without one."""
        plain = played(order, polls).lost()
        for kind, found, greatest in [("overlap", reaches(order, polls), 2 * GREATEST), ("wait", waits(order, polls), 31)]:
            self.assertEqual(list(found), plain, (order, polls, kind))
            for row, margin in found.items():
                case = (order, polls, kind, row)
                if margin is None:
                    self.assertEqual(played(order, polls, kind, greatest).states()[row], "lost", case)
                else:
                    self.assertEqual(played(order, polls, kind, margin).states()[row], "read", case)
                    self.assertEqual(played(order, polls, kind, margin - 1).states()[row], "lost", case)

    def check_least(self, order, polls, most):
        """Check that at most so many ids are lost with the least margin, and more with one less."""
        for kind, least, plain in [("overlap", least_overlap, 1), ("wait", least_wait, 0)]:
            margin = least(order, polls, most)
            case = (order, polls, kind, most, margin)
            if margin is None:
                self.assertGreater(len(lost_ids(order, polls, **{kind: 2 * GREATEST})), most, case)
                continue
            self.assertGreaterEqual(margin, plain, case)
            self.assertLessEqual(len(lost_ids(order, polls, **{kind: margin})), most, case)
            if margin > plain:
                self.assertGreater(len(lost_ids(order, polls, **{kind: margin - 1})), most, case)

    def test_all_small_orders_and_polls(self):
        for many in range(5):
            for order in itertools.permutations([1, 2, 4, 9][:many]):
                for polls in all_polls(many, 4):
                    self.check_needs(list(order), polls)
                    for most in range(many + 1):
                        self.check_least(list(order), polls, most)

    def test_orders_of_all_kinds(self):
        source = random.Random(30)
        for order in some_orders():
            for polls in drawn_polls(source, order):
                self.check_needs(order, polls)
                lost = len(lost_ids(order, polls))
                for most in {0, 1, lost // 2, max(0, lost - 1), lost, lost + 1, 10 ** 30}:
                    self.check_least(order, polls, most)

    def test_none_where_no_poll_follows_the_commit(self):
        self.assertEqual([reaches([2, 1], [1]), waits([2, 1], [1])], [{1: None}, {1: None}])
        self.assertEqual([reaches([2, 1], [1, 2]), waits([2, 1], [1, 1, 2])], [{1: 2}, {1: 2}])
        self.assertEqual([[least([2, 1], [1], most) for most in range(2)] for least in WITH_MOST], [[None, 1], [None, 0]])
        self.assertEqual(reaches(FULL[::-1], [1, 10]), {row: 31 - row if row > 20 else None for row in FULL[:-1]})
        self.assertEqual([least_overlap(FULL[::-1], [1, 10], most) for most in [19, 20, 28, 29]], [None, 10, 2, 1])
        self.assertEqual([least_wait(FULL[::-1], [1, 10], most) for most in [19, 20, 28, 29]], [None, 1, 1, 0])

    def test_several_polls_at_one_moment_count_for_waits(self):
        self.assertEqual(waits([2, 1], [0, 1, 1, 1, 2, 2]), {1: 3})
        self.assertEqual(reaches([2, 1], [0, 1, 1, 1, 2, 2]), {1: 2})
        self.assertEqual(waits([5, 6, 1, 7], [1] * 10 + [2] * 19 + [4]), {1: 29})
        self.assertEqual(least_wait([5, 6, 1, 7], [1] * 10 + [2] * 19 + [4], 0), 29)

    def test_edges(self):
        for order in [[], [1], FULL, [GREATEST]]:
            for polls in [[], [0], [len(order)], [0] * 30]:
                self.assertEqual([reaches(order, polls), waits(order, polls)], [{}, {}])
                self.assertEqual([[least(order, polls, most) for most in [0, 1, GREATEST, 10 ** 40]] for least in WITH_MOST],
                                 [[1] * 4, [0] * 4])
        self.assertEqual(reaches([GREATEST, 1], [1, 2]), {1: GREATEST})
        self.assertEqual(least_overlap([GREATEST, 1], [1, 2], 0), GREATEST)

    def test_keys_are_ascending(self):
        source = random.Random(33)
        for order in ALL_ORDERS[::5]:
            for polls in drawn_polls(source, order):
                for function in OF_POLLS:
                    found = list(function(order, polls))
                    self.assertEqual(found, sorted(found))


class GreatestReachTest(ExactCase):

    def test_beside_a_poll_at_every_moment(self):
        for order in ALL_ORDERS:
            polls = list(range(1, len(order) + 1))
            reach = greatest_reach(order)
            self.assertEqual(reach, max(list(reaches(order, polls).values()) + [1]))
            self.assertEqual(reach, least_overlap(order, polls, 0))
            self.assertEqual(lost_ids(order, polls, overlap=reach), [])
            if reach > 1:
                self.assertNotEqual(lost_ids(order, polls, overlap=reach - 1), [])

    def test_whatever_the_polls_are(self):
        source = random.Random(34)
        for order in some_orders():
            reach = greatest_reach(order)
            for polls in drawn_polls(source, order):
                self.assertEqual(lost_ids(order, polls[:29] + [len(order)], overlap=reach), [])

    def test_edges(self):
        self.assertEqual([greatest_reach([GREATEST]), greatest_reach([2, 1]), greatest_reach([5, 9, 1, 10, 7])], [1, 2, 9])
        self.assertEqual([greatest_reach(FULL), greatest_reach(FULL[::-1])], [1, 30])


class ErrorsTest(ExactCase):

    def test_wrong_orders_come_first(self):
        for order in WRONG_ORDERS:
            self.assert_raises_exactly(InvalidOrder, greatest_reach, order)
            for polls in [[], [0], [1, 0], None, "1", [True], Odd()]:
                for function in OF_POLLS:
                    self.assert_raises_exactly(InvalidOrder, function, order, polls)
                for function in WITH_MOST:
                    for most in [0, -1, None, Odd()]:
                        self.assert_raises_exactly(InvalidOrder, function, order, polls, most)

    def test_wrong_polls_come_next(self):
        for order in [[], [1], [2, 1], EXAMPLE, FULL, [GREATEST, 1]]:
            for polls in wrong_polls(order):
                for function in OF_POLLS:
                    self.assert_raises_exactly(InvalidPolls, function, order, polls)
                for function in WITH_MOST:
                    for most in [0, -1, None, Odd()]:
                        self.assert_raises_exactly(InvalidPolls, function, order, polls, most)

    def test_wrong_numbers(self):
        for order, polls in [([], []), (EXAMPLE, [1, 4, 7]), (EXAMPLE, [1]), (FULL[::-1], [1, 30])]:
            for most in NO_INTEGERS + [-1, -2, -GREATEST, -10 ** 40]:
                for function in WITH_MOST:
                    self.assert_raises_exactly(InvalidNumber, function, order, polls, most)

    def test_right_arguments_raise_nothing(self):
        for order in [[], [1], EXAMPLE, FULL, FULL[::-1], [GREATEST, 1]]:
            self.assertIs(type(greatest_reach(order)), int)
            for polls in [[], [0] * 30, [len(order)] * 30, [0, len(order)]]:
                for function in OF_POLLS:
                    self.assertIs(type(function(order, polls)), dict)
                for function in WITH_MOST:
                    for most in [0, 1, GREATEST]:
                        self.assertIs(type(function(order, polls, most)), int)


class ConventionsTest(ExactCase):

    def test_results_are_new_and_arguments_stay(self):
        source = random.Random(35)
        for order in some_orders()[::3]:
            self.assert_unchanged(greatest_reach, order)
            for polls in drawn_polls(source, order):
                for function in OF_POLLS:
                    self.assert_unchanged(function, order, polls)
                for function in WITH_MOST:
                    self.assert_unchanged(function, order, polls, 1)

    def test_changed_arguments_are_read_anew(self):
        order, polls = [3, 1, 2], [1, 3]
        seen = [reaches(order, polls), waits(order, polls), least_overlap(order, polls, 0), least_wait(order, polls, 0)]
        self.assertEqual(seen + [greatest_reach(order)], [{1: 3, 2: 2}, {1: 1, 2: 1}, 3, 1, 3])
        polls[1] = 2
        seen = [reaches(order, polls), waits(order, polls), least_overlap(order, polls, 0), least_wait(order, polls, 1)]
        self.assertEqual(seen, [{1: 3, 2: None}, {1: 1, 2: None}, None, 1])
        order.sort()
        seen = [reaches(order, polls), waits(order, polls), least_overlap(order, polls, 0), least_wait(order, polls, 0)]
        self.assertEqual(seen + [greatest_reach(order)], [{}, {}, 1, 0, 1])
        polls.append(4)
        self.assert_raises_exactly(InvalidPolls, reaches, order, polls)
        order[0] = 3
        self.assert_raises_exactly(InvalidOrder, waits, order, polls)

    def test_the_greatest_arguments(self):
        for order in [FULL, FULL[::-1], [30] + FULL[:-1], [GREATEST - row for row in FULL]] + some_orders()[-7:]:
            steps_of(lambda: greatest_reach(order), 200000)
            for polls in [[15] * 30, list(range(1, 31)), [1] * 29 + [30]]:
                for function in OF_POLLS:
                    steps_of(lambda: function(order, polls), 200000)
                for function in WITH_MOST:
                    for most in [0, 15, GREATEST]:
                        steps_of(lambda: function(order, polls, most), 200000)


if __name__ == "__main__":
    unittest.main()
