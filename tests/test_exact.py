"""Exact losses: points [24] to [26], and the conventions [2] for them."""

import itertools
import random
import unittest

from lateids.errors import InvalidIds, InvalidOrder, NotPossible
from lateids.exact import alone_ids, can_lose, count_polls_for, polls_for
from orders import EXAMPLE, GREATEST, WRONG_ORDERS, all_sets, drawn_polls, played, some_orders
from samples import NO_INTEGERS, NO_LISTS, Equal, ExactCase, Odd, steps_of

WITH_IDS = [can_lose, polls_for, count_polls_for]
FULL = list(range(1, 31))
SPARSE = [1, 3, 4, 11, 10 ** 15, GREATEST]


def wrong_ids(order):
    """Return values that are no ascending lists of different ids of an order."""
    numbers = [number for number in [0, -1, 1, 2, 3, 8, 31, GREATEST, GREATEST - 1, GREATEST + 1] if number not in order]
    lists = [[number] for number in numbers] + [sorted(order + [number]) for number in numbers]
    lists += [[value] for value in NO_INTEGERS] + [order[:1] + [value] for value in NO_INTEGERS]
    lists += [[Odd(), Odd()], [Equal()], [[]], [order, order], [tuple(order)], [[order]], ["1", "2"], [True, 2], [1.0]]
    lists += [(), tuple(order), tuple(sorted(order)), {row: row for row in order}, set(order)]
    for row in order:
        lists += [[row, row], [row, row, row], (row,), [[row]], [(row,)], [float(row)], [str(row)], [row, [row]]]
    if len(order) > 1:
        lists += [sorted(order, reverse=True), sorted(order) + [min(order)], [max(order)] + sorted(order)]
        lists += [[max(order), min(order)], sorted(order)[::-1][:2], sorted(order + [max(order)])]
    return NO_LISTS + lists


def alone_lost(order):
    """Return what one poll of a plain reader loses, for each moment from 0 on."""
    return [played(order, [moment]).lost() for moment in range(len(order) + 1)]


def allowed_dangers(order, ids):
    """Return for each of the ids the moments that lose it and no id beside these."""
    lost = alone_lost(order)
    return {row: [moment for moment, rows in enumerate(lost) if row in rows and set(rows) <= set(ids)] for row in ids}


def least_and_count(order, ids):
    """Return the least number of polls, and the number of lists of moments, that lose exactly these ids.

    A list is a way from one of its moments to the next that never jumps over all
    moments that could lose an id.
    """
    dangers = allowed_dangers(order, ids)
    lost = alone_lost(order)
    allowed = [moment for moment, rows in enumerate(lost) if set(rows) <= set(ids)]
    end = len(order) + 1
    ways = {-1: (0, 1)}
    for moment in allowed + [end]:
        ahead = []
        for before, (least, count) in ways.items():
            if not any(all(before < choice < moment for choice in dangers[row]) for row in ids):
                ahead.append((least + 1, count))
        if ahead:
            ways[moment] = (min(least for least, _ in ahead), sum(count for _, count in ahead))
    least, count = ways.get(end, (None, 0))
    return (None, 0) if count == 0 else (least - 1, count)


class ExamplesTest(ExactCase):

    def test_can_lose_and_alone_ids(self):
        order = [5, 1, 2, 3, 4]
        self.assertEqual(
            [[can_lose(order, ids) for ids in [[], [4], [3, 4], [1], [2, 4]]],
             alone_ids(order), alone_ids([2, 1, 4, 3])],
            [[True, True, True, False, False], [4], [1, 3]])

    def test_polls_for(self):
        self.assertEqual([polls_for(EXAMPLE, []), polls_for(EXAMPLE, [1, 6]), polls_for([5, 1, 2, 3, 4], [3, 4])],
                         [[], [1, 6], [3]])
        found = self.assert_raises_exactly(NotPossible, polls_for, [5, 1, 2, 3, 4], [2, 3])
        self.assertEqual(found.row, 2)

    def test_count_polls_for(self):
        self.assertEqual([count_polls_for(EXAMPLE, ids) for ids in [[3], [], [1, 3, 6], [2]]], [48, 16, 48, 0])


class AllSmallOrdersTest(ExactCase):
    """All orders of at most six ids, all sets of moments and all sets of ids."""

    def check(self, order):
        by_loss = {}
        for polls in all_sets(range(len(order) + 1)):
            by_loss.setdefault(tuple(played(order, polls).lost()), []).append(polls)
        alone = []
        for ids in all_sets(sorted(order)):
            found = by_loss.get(tuple(ids), [])
            case = (order, ids)
            self.assertIs(can_lose(order, ids), bool(found), case)
            self.assertEqual(count_polls_for(order, ids), len(found), case)
            if found:
                polls = polls_for(order, ids)
                self.assertIn(polls, found, case)
                self.assertEqual(len(polls), min(len(other) for other in found), case)
            else:
                dangers = allowed_dangers(order, ids)
                wrong = self.assert_raises_exactly(NotPossible, polls_for, order, ids)
                self.assertEqual(wrong.row, min(row for row in ids if not dangers[row]), case)
            if found and len(ids) == 1:
                alone += ids
        self.assertEqual(alone_ids(order), alone, order)

    def test_up_to_five_ids(self):
        for many in range(6):
            for order in itertools.permutations(SPARSE[:many]):
                self.check(list(order))

    def test_six_ids(self):
        for order in itertools.permutations(SPARSE):
            self.check(list(order))


class LongOrdersTest(ExactCase):

    def check(self, order, ids):
        least, count = least_and_count(order, ids)
        case = (order, ids)
        self.assertIs(can_lose(order, ids), count > 0, case)
        self.assertEqual(count_polls_for(order, ids), count, case)
        if count:
            polls = polls_for(order, ids)
            self.assertEqual(played(order, polls).lost(), ids, case)
            self.assertEqual(polls, sorted(set(polls)), case)
            self.assertEqual(len(polls), least, case)
        else:
            dangers = allowed_dangers(order, ids)
            wrong = self.assert_raises_exactly(NotPossible, polls_for, order, ids)
            self.assertEqual(wrong.row, min(row for row in ids if not dangers[row]), case)

    def test_what_drawn_polls_lose_and_one_id_more_or_less(self):
        source = random.Random(25)
        for order in some_orders()[::2]:
            for polls in source.sample(drawn_polls(source, order), 6):
                lost = played(order, polls).lost()
                self.assertIs(can_lose(order, lost), True)
                self.assertLessEqual(len(polls_for(order, lost)), len(set(polls)))
                self.check(order, lost)
                others = [row for row in order if row not in lost]
                if others:
                    self.check(order, sorted(lost + [source.choice(others)]))
                if lost:
                    gone = source.choice(lost)
                    self.check(order, [row for row in lost if row != gone])

    def test_no_ids_and_all_that_can_be_lost(self):
        for order in some_orders():
            self.check(order, [])
            self.assertEqual(polls_for(order, []), [])
            every = sorted({row for rows in alone_lost(order) for row in rows})
            self.assertIs(can_lose(order, every), True)
            self.check(order, every)
            self.check(order, sorted(order))

    def test_the_counts_of_all_sets_are_all_lists_of_moments(self):
        source = random.Random(26)
        for many in [10, 18, 25, 30]:
            order = list(range(1, many + 1))
            for at in source.sample(range(many - 2), 4):
                row = order.pop(at)
                order.insert(min(many - 1, at + source.randint(1, 3)), row)
            every = sorted({row for rows in alone_lost(order) for row in rows})
            self.assertLess(len(every), 11)
            total = sum(count_polls_for(order, ids) for ids in all_sets(every))
            self.assertEqual(total, 2 ** (many + 1))

    def test_known_counts(self):
        self.assertEqual([count_polls_for([], []), count_polls_for([7], []), count_polls_for([7], [7])], [2, 4, 0])
        self.assertEqual(count_polls_for(FULL, []), 2 ** 31)
        self.assertEqual(count_polls_for(FULL, [15]), 0)
        descending = FULL[::-1]
        self.assertEqual(count_polls_for(descending, []), 4)
        self.assertEqual(count_polls_for(descending, FULL[:-1]), 2 ** 30)
        self.assertEqual([count_polls_for(descending, FULL[:many]) for many in range(1, 30)],
                         [4 * 2 ** (many - 1) for many in range(1, 30)])
        self.assertEqual(count_polls_for(descending, FULL), 0)

    def test_alone_ids(self):
        self.assertEqual([alone_ids([]), alone_ids([9]), alone_ids(FULL), alone_ids(FULL[::-1])], [[], [], [], [1]])
        self.assertEqual(alone_ids([GREATEST, GREATEST - 1]), [GREATEST - 1])
        for order in some_orders():
            lost = alone_lost(order)
            self.assertEqual(alone_ids(order), sorted({rows[0] for rows in lost if len(rows) == 1}), order)
            self.assertEqual(alone_ids(order), [row for row in sorted(order) if can_lose(order, [row])], order)


class ErrorsTest(ExactCase):

    def test_wrong_orders_come_first(self):
        for order in WRONG_ORDERS:
            self.assert_raises_exactly(InvalidOrder, alone_ids, order)
            for function in WITH_IDS:
                for ids in [[], [1], None, "1", [True], [2, 1], (1,), Odd()]:
                    self.assert_raises_exactly(InvalidOrder, function, order, ids)

    def test_wrong_ids(self):
        for order in [[], [1], [2, 1], EXAMPLE, FULL, FULL[::-1], [GREATEST, 1], [5, 1, 2, 3, 4]]:
            for ids in wrong_ids(order):
                for function in WITH_IDS:
                    self.assert_raises_exactly(InvalidIds, function, order, ids)

    def test_wrong_ids_come_ahead_of_what_is_not_possible(self):
        for ids in [[2, 3, 6], [3, 2], [2, 2, 3], [2, 3, True], (2, 3), [0, 2, 3]]:
            self.assert_raises_exactly(InvalidIds, polls_for, [5, 1, 2, 3, 4], ids)

    def test_not_possible_names_the_least_id(self):
        for order, ids, row in [
            ([5, 1, 2, 3, 4], [1], 1), ([5, 1, 2, 3, 4], [5], 5), ([5, 1, 2, 3, 4], [1, 2, 3], 1),
            ([5, 1, 2, 3, 4], [2, 4], 2), ([5, 1, 2, 3, 4], [4, 5], 5), ([5, 1, 2, 3, 4], [1, 2, 3, 4, 5], 5),
            ([GREATEST], [GREATEST], GREATEST), (EXAMPLE, [1, 2, 3, 4], 2), (FULL[::-1], [1, 2, 3, 5, 6], 5),
        ]:
            found = self.assert_raises_exactly(NotPossible, polls_for, order, ids)
            self.assertEqual([found.row, vars(found)], [row, {"row": row}])

    def test_right_arguments_raise_nothing(self):
        for order in [[], [1], EXAMPLE, FULL, FULL[::-1], [GREATEST, 1]]:
            self.assertIsInstance(alone_ids(order), list)
            for ids in [[], sorted(order), sorted(order)[:1]]:
                self.assertIs(type(can_lose(order, ids)), bool)
                self.assertIs(type(count_polls_for(order, ids)), int)
            self.assertEqual(polls_for(order, []), [])


class ConventionsTest(ExactCase):

    def test_results_are_new_and_arguments_stay(self):
        source = random.Random(27)
        for order in some_orders()[::4]:
            self.assert_unchanged(alone_ids, order)
            for polls in drawn_polls(source, order):
                lost = played(order, polls).lost()
                for function in WITH_IDS:
                    self.assert_unchanged(function, order, lost)

    def test_changed_arguments_are_read_anew(self):
        order, ids = [3, 1, 2], [2]
        seen = [can_lose(order, ids), polls_for(order, ids), count_polls_for(order, ids), alone_ids(order)]
        self.assertEqual(seen, [True, [2], 4, [2]])
        ids.insert(0, 1)
        seen = [can_lose(order, ids), polls_for(order, ids), count_polls_for(order, ids)]
        self.assertEqual(seen, [True, [1], 8])
        order.reverse()
        self.assertEqual([can_lose(order, ids), count_polls_for(order, ids), alone_ids(order)], [False, 0, [1]])
        self.assertEqual(self.assert_raises_exactly(NotPossible, polls_for, order, ids).row, 2)
        order[0] = 4
        for function in WITH_IDS:
            self.assert_raises_exactly(InvalidIds, function, order, ids)
        order[0] = 1
        for function in WITH_IDS:
            self.assert_raises_exactly(InvalidOrder, function, order, ids)

    def test_the_greatest_arguments(self):
        for order in [FULL, FULL[::-1], [30] + FULL[:-1], [GREATEST - row for row in FULL]] + some_orders()[-7:]:
            steps_of(lambda: alone_ids(order), 200000)
            for ids in [[], sorted(order), sorted(order)[:-1], sorted(order)[::2]]:
                steps_of(lambda: can_lose(order, ids), 200000)
                steps_of(lambda: count_polls_for(order, ids), 200000)
            every = sorted({row for rows in alone_lost(order) for row in rows})
            steps_of(lambda: polls_for(order, every), 200000)


if __name__ == "__main__":
    unittest.main()
