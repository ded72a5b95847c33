"""Moments: points [5], [7] and [17] to [19], and the conventions [2] for them."""

import unittest

from lateids.errors import InvalidId, InvalidMoment, InvalidOrder
from lateids.moments import danger_of, missed_at, missed_counts, safe_ids, top_at, visible_at
from orders import ALL_ORDERS, EXAMPLE, GREATEST, WRONG_ORDERS, some_orders
from samples import NO_INTEGERS, ExactCase, Odd


def plain_top(order, moment):
    top = 0
    for row in order[:moment]:
        top = row if row > top else top
    return top


OF_AN_ORDER = [missed_counts, safe_ids]
WITH_MOMENT = [visible_at, top_at, missed_at]


class VisibleAndTopTest(ExactCase):

    def test_example(self):
        self.assertEqual(
            [visible_at(EXAMPLE, 3), [top_at(EXAMPLE, moment) for moment in range(8)]],
            [[1, 2, 4], [0, 2, 2, 4, 5, 5, 7, 7]])

    def test_edges(self):
        self.assertEqual([visible_at([], 0), top_at([], 0)], [[], 0])
        self.assertEqual([visible_at([GREATEST], 0), top_at([GREATEST], 0)], [[], 0])
        self.assertEqual([visible_at([GREATEST], 1), top_at([GREATEST], 1)], [[GREATEST], GREATEST])
        full = list(range(30, 0, -1))
        self.assertEqual([visible_at(full, 30), top_at(full, 30)], [list(range(1, 31)), 30])

    def test_all_moments(self):
        for order in ALL_ORDERS:
            for moment in range(len(order) + 1):
                ahead = [order[at] for at in range(moment)]
                visible = [row for row in sorted(order) if row in ahead]
                self.assertEqual(visible_at(order, moment), visible)
                self.assertEqual(top_at(order, moment), plain_top(order, moment))


class MissedTest(ExactCase):

    def test_example(self):
        self.assertEqual(
            [[missed_at(EXAMPLE, moment) for moment in [1, 2, 3, 6]], missed_counts(EXAMPLE)],
            [[[1], [], [3], [6]], [0, 1, 0, 1, 1, 0, 1, 0]])

    def test_edges(self):
        self.assertEqual([missed_at([], 0), missed_counts([])], [[], [0]])
        self.assertEqual([missed_at([5], 0), missed_at([5], 1), missed_counts([5])], [[], [], [0, 0]])
        self.assertEqual(missed_at([GREATEST, 3, 1, 2], 1), [1, 2, 3])
        self.assertEqual(missed_counts(list(range(1, 31))), [0] * 31)
        self.assertEqual(missed_counts(list(range(30, 0, -1))), [0] + list(range(29, -1, -1)))

    def test_all_moments(self):
        for order in ALL_ORDERS:
            for moment in range(len(order) + 1):
                top = plain_top(order, moment)
                missed = [row for row in sorted(order) if row < top and order.index(row) >= moment]
                self.assertEqual(missed_at(order, moment), missed)

    def test_counts_are_the_ids_up_to_the_top_less_the_moment(self):
        for order in ALL_ORDERS:
            counts = missed_counts(order)
            self.assertEqual(counts, [len(missed_at(order, moment)) for moment in range(len(order) + 1)])
            for moment, count in enumerate(counts):
                top = plain_top(order, moment)
                self.assertEqual(count, len([row for row in order if row <= top]) - moment)


class DangerTest(ExactCase):

    def test_example(self):
        self.assertEqual(
            [[danger_of(EXAMPLE, row) for row in [1, 2, 3, 6]], safe_ids(EXAMPLE)],
            [[(1, 1), None, (3, 4), (6, 6)], [2, 4, 5, 7]])

    def test_edges(self):
        self.assertEqual(safe_ids([]), [])
        self.assertEqual([danger_of([GREATEST], GREATEST), safe_ids([GREATEST])], [None, [GREATEST]])
        full = list(range(30, 0, -1))
        self.assertEqual([danger_of(full, row) for row in [30, 29, 1]], [None, (1, 1), (1, 29)])
        self.assertEqual(safe_ids(full), [30])
        self.assertEqual(safe_ids(list(range(1, 31))), list(range(1, 31)))
        self.assertEqual([danger_of([GREATEST, GREATEST - 1], GREATEST - 1), safe_ids([3, 9, 5])], [(1, 1), [3, 9]])

    def test_danger_beside_the_tops_of_all_moments(self):
        for order in ALL_ORDERS:
            safe = []
            for row in order:
                moments = [moment for moment in range(order.index(row) + 1) if plain_top(order, moment) > row]
                found = danger_of(order, row)
                if moments:
                    self.assertIsInstance(found, tuple)
                    self.assertEqual(list(range(found[0], found[1] + 1)), moments)
                    self.assertEqual(len(found), 2)
                else:
                    self.assertIsNone(found)
                    safe.append(row)
            self.assertEqual(safe_ids(order), sorted(safe))

    def test_danger_is_where_a_poll_misses_the_id(self):
        for order in ALL_ORDERS:
            missed = [missed_at(order, moment) for moment in range(len(order) + 1)]
            for row in order:
                moments = [moment for moment in range(len(order) + 1) if row in missed[moment]]
                first_and_last = (moments[0], moments[-1]) if moments else None
                self.assertEqual(danger_of(order, row), first_and_last)


class ErrorsTest(ExactCase):

    def test_wrong_orders_come_first(self):
        for order in WRONG_ORDERS:
            for function in OF_AN_ORDER:
                self.assert_raises_exactly(InvalidOrder, function, order)
            for function in WITH_MOMENT + [danger_of]:
                for other in [0, 1, -1, None, True, "1", Odd()]:
                    self.assert_raises_exactly(InvalidOrder, function, order, other)

    def test_wrong_moments(self):
        for order in [[], [1], EXAMPLE, list(range(1, 31)), [GREATEST, 1]]:
            many = len(order)
            wrong = [-1, -many, -many - 1, many + 1, many + 2, 31, GREATEST, -GREATEST, 10 ** 40]
            wrong = [moment for moment in wrong if moment < 0 or moment > many]
            for function in WITH_MOMENT:
                for moment in NO_INTEGERS + wrong:
                    self.assert_raises_exactly(InvalidMoment, function, order, moment)

    def test_wrong_ids(self):
        for order in [[], [1], [2, 1], EXAMPLE, list(range(1, 31)), [GREATEST, 1]]:
            wrong = [row for row in [0, -1, 1, 8, 31, GREATEST, GREATEST - 1, GREATEST + 1] if row not in order]
            for row in NO_INTEGERS + wrong + [order, tuple(order)]:
                self.assert_raises_exactly(InvalidId, danger_of, order, row)

    def test_right_arguments_raise_nothing(self):
        for order in [list(range(1, 31)), [GREATEST - k for k in range(30)], [GREATEST], [1], []]:
            for moment in [0, len(order)]:
                self.assertEqual(len(visible_at(order, moment)), moment)
                self.assertIsInstance(top_at(order, moment), int)
                self.assertIsInstance(missed_at(order, moment), list)
            self.assertEqual(len(missed_counts(order)), len(order) + 1)
            self.assertEqual(sorted(safe_ids(order)), safe_ids(order))


class ConventionsTest(ExactCase):

    def test_results_are_new_and_arguments_stay(self):
        for order in some_orders():
            for function in OF_AN_ORDER:
                self.assert_unchanged(function, order)
            for moment in [0, len(order) // 2, len(order)]:
                for function in WITH_MOMENT:
                    self.assert_unchanged(function, order, moment)
            for row in order[:3]:
                self.assert_unchanged(danger_of, order, row)

    def test_changed_arguments_are_read_anew(self):
        order = [3, 1, 2]
        seen = [visible_at(order, 1), top_at(order, 1), missed_at(order, 1), missed_counts(order), safe_ids(order)]
        self.assertEqual(seen, [[3], 3, [1, 2], [0, 2, 1, 0], [3]])
        self.assertEqual(danger_of(order, 2), (1, 2))
        order.sort()
        seen = [visible_at(order, 1), top_at(order, 1), missed_at(order, 1), missed_counts(order), safe_ids(order)]
        self.assertEqual(seen, [[1], 1, [], [0, 0, 0, 0], [1, 2, 3]])
        self.assertIsNone(danger_of(order, 2))
        order[1] = 1
        self.assert_raises_exactly(InvalidOrder, safe_ids, order)
        order.clear()
        self.assert_raises_exactly(InvalidMoment, top_at, order, 1)
        self.assert_raises_exactly(InvalidId, danger_of, order, 1)


if __name__ == "__main__":
    unittest.main()
