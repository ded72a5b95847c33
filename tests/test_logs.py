"""One log: points [10] and [33] to [36], and the conventions [2] for them."""

import itertools
import math
import random
import unittest

from lateids.errors import InvalidId, InvalidIds, InvalidLog, InvalidNumber, InvalidOrder, NotPossible
from lateids.logs import blocks, count_orders, fits, is_log, is_order_of, nth_order, order_number, surely_ahead
from orders import GREATEST, WRONG_ORDERS, all_polls, played
from readings import (
    EXAMPLE_IDS, EXAMPLE_LOG, FULL, WRONG_IDS, WRONG_LOGS, drawn_case, plainly_a_log, some_cases,
)
from samples import NO_INTEGERS, STRANGE, Equal, ExactCase, Odd, changed, steps_of

CASES = some_cases()

# What is not among the ids: each log, the ids, and the least id of the log that they lack.
NOT_FITTING = [
    ([[1]], [], 1), ([[2]], [1, 3], 2), (EXAMPLE_LOG, [1, 2, 4, 5, 6], 7), (EXAMPLE_LOG, [3], 2),
    (EXAMPLE_LOG, [2, 3], 4),
    ([[], [3], [], [GREATEST]], [3], GREATEST), ([FULL], FULL[1:], 1), ([FULL], FULL[:-1], 30),
    ([[1, 2], [3, 4]], [1, 2, 4], 3),
]


def leads(order, log):
    """Return whether polls at some moments of an order return the lists, tried moment by moment."""
    moments, cursor = {0}, 0
    for rows in log:
        moments = {moment for earlier in moments for moment in range(earlier, len(order) + 1)
                   if sorted(row for row in order[:moment] if row > cursor) == rows}
        cursor = max([cursor, *rows])
    return bool(moments)


class ExamplesTest(ExactCase):

    def test_logs(self):
        self.assertEqual(
            [is_log(EXAMPLE_LOG), is_log([[2], [], [1]]), fits(EXAMPLE_LOG, [2, 4, 5, 6]),
             blocks(EXAMPLE_LOG, [1, 2, 3, 4, 5, 6, 7, 9])],
            [True, False, False,
             {1: (1, 3), 2: (0, 0), 3: (2, 3), 4: (1, 1), 5: (1, 1), 6: (2, 2), 7: (2, 2), 9: (3, 3)}])

    def test_surely_ahead(self):
        pairs = [(4, 3), (1, 4), (2, 1), (4, 5), (3, 6)]
        self.assertEqual([surely_ahead(EXAMPLE_LOG, EXAMPLE_IDS, one, other) for one, other in pairs],
                         [True, False, True, False, False])

    def test_counts(self):
        self.assertEqual([count_orders(EXAMPLE_LOG, EXAMPLE_IDS), count_orders([[2], []], [1, 2]),
                          count_orders([], [1, 2, 3])],
                         [72, 1, 6])

    def test_orders(self):
        values = [[2, 5, 4, 6, 7, 3, 1], [2, 3, 4, 5, 6, 7, 1], [2, 4, 5, 6, 7]]
        self.assertEqual([is_order_of(EXAMPLE_LOG, EXAMPLE_IDS, value) for value in values], [True, False, False])

    def test_numbers(self):
        log, ids = EXAMPLE_LOG, EXAMPLE_IDS
        self.assertEqual([nth_order(log, ids, 0), nth_order(log, ids, 71), order_number(log, ids, [2, 4, 1, 5, 3, 6, 7])],
                         [[2, 1, 4, 5, 3, 6, 7], [2, 5, 4, 7, 6, 3, 1], 12])


class IsLogTest(ExactCase):

    def test_right_logs(self):
        for log, _ in CASES:
            self.assertIs(is_log(log), True, log)
        for log in [[], [[]], [[]] * 12, [[1]], [[GREATEST]], [FULL], [FULL[:10], FULL[10:]], [[1], [], [GREATEST]]]:
            self.assertIs(is_log(log), True, log)
        self.assertIs(is_log([[row] for row in range(1, 13)]), True)
        self.assertIs(is_log([[], list(range(GREATEST - 29, GREATEST + 1))]), True)

    def test_wrong_values(self):
        for value in WRONG_LOGS:
            self.assertIs(is_log(value), False)

    def test_long_values(self):
        values = [[[]] * 400, [[1]] * 400, [list(range(1, 401))], [[Odd()] * 400], [None] * 400, [[0] * 400]]
        self.assertEqual([is_log(value) for value in values], [False] * 6)
        circle = []
        circle.append(circle)
        self.assertIs(is_log(circle), False)

    def test_one_change(self):
        source, wrong = random.Random(1), 0
        for log, _ in CASES:
            for _ in range(60):
                value = changed(source, log)
                right = plainly_a_log(value)
                self.assertIs(is_log(value), right, value)
                wrong += not right
        self.assertGreater(wrong, 2000)


class AllOrdersTest(ExactCase):
    """Beside a reader that is played for all orders and all moments."""

    def check_log(self, log, ids, orders, seen):
        case = (log, ids)
        self.assertIs(fits(log, ids), True)
        found = blocks(log, ids)
        self.assertEqual(list(found), ids)
        for row in ids:
            self.assertEqual(set(range(found[row][0], found[row][1] + 1)), seen[row], case)
        for one, other in itertools.product(ids, ids):
            ahead = all(order.index(one) < order.index(other) for order in orders)
            self.assertIs(surely_ahead(log, ids, one, other), ahead, (case, one, other))
        self.assertEqual(count_orders(log, ids), len(orders), case)
        self.assertEqual([nth_order(log, ids, number) for number in range(len(orders))], orders, case)
        self.assertEqual([order_number(log, ids, order) for order in orders], list(range(len(orders))), case)
        for order in itertools.permutations(ids):
            self.assertIs(is_order_of(log, ids, list(order)), list(order) in orders, (case, order))
        self.assert_raises_exactly(InvalidNumber, nth_order, log, ids, len(orders))

    def check_ids(self, ids, most):
        found = {}
        for order in itertools.permutations(ids):
            for polls in all_polls(len(ids), most):
                lists = tuple(tuple(rows) for rows in played(list(order), polls).lists)
                orders, seen = found.setdefault(lists, (set(), {row: set() for row in ids}))
                orders.add(order)
                for at, row in enumerate(order):
                    seen[row].add(len([moment for moment in polls if moment <= at]))
        for lists, (orders, seen) in found.items():
            self.check_log([list(rows) for rows in lists], ids, [list(order) for order in sorted(orders)], seen)

    def test_up_to_three_ids(self):
        for ids in [[], [1], [7], [1, 2], [5, GREATEST], [1, 2, 3], [2, 9, GREATEST]]:
            self.check_ids(ids, 4)

    def test_four_and_five_ids(self):
        self.check_ids([1, 2, 5, 6], 4)
        self.check_ids([2, 3, 4, 8, GREATEST], 3)

    def test_six_ids(self):
        self.check_ids([1, 2, 3, 4, 5, 6], 1)

    def test_drawn_logs_of_six_ids(self):
        source = random.Random(2)
        for _ in range(12):
            log, ids, _ = drawn_case(source, 6)
            orders = [list(order) for order in itertools.permutations(ids) if leads(order, log)]
            self.assertEqual(count_orders(log, ids), len(orders))
            self.assertEqual([nth_order(log, ids, number) for number in range(len(orders))], orders)
            self.assertEqual([order_number(log, ids, order) for order in orders], list(range(len(orders))))


class LongLogsTest(ExactCase):

    def test_the_order_that_was_played(self):
        source = random.Random(3)
        for many in range(31):
            for _ in range(12):
                log, ids, order = drawn_case(source, many)
                self.assertIs(is_order_of(log, ids, order), True)
                number = order_number(log, ids, order)
                self.assertTrue(0 <= number < count_orders(log, ids))
                self.assertEqual(nth_order(log, ids, number), order)

    def test_first_last_and_drawn_numbers(self):
        source = random.Random(4)
        for log, ids in CASES:
            many = count_orders(log, ids)
            numbers = {0, many - 1, many // 2, min(1, many - 1)} | {source.randrange(many) for _ in range(6)}
            before = None
            for number in sorted(numbers):
                order = nth_order(log, ids, number)
                self.assertTrue(leads(order, log), (log, order))
                self.assertIs(is_order_of(log, ids, order), True)
                self.assertEqual(order_number(log, ids, order), number)
                self.assertTrue(before is None or before < order)
                before = order

    def test_neighbouring_numbers_are_neighbouring_orders(self):
        source = random.Random(5)
        for log, ids in CASES:
            many = count_orders(log, ids)
            for _ in range(4):
                number = source.randrange(many)
                order = nth_order(log, ids, number)
                if number + 1 < many:
                    behind = nth_order(log, ids, number + 1)
                    self.assertLess(order, behind)
                    at = [one != other for one, other in zip(order, behind)].index(True)
                    self.assertLess(order[at], behind[at])
                    # No id between the two can stand there: another one has to be ahead of it.
                    for row in order[at + 1:]:
                        if order[at] < row < behind[at]:
                            self.assertTrue(any(surely_ahead(log, ids, one, row) for one in order[at:]))

    def test_exchanged_ids(self):
        source = random.Random(6)
        for many in range(2, 31):
            for _ in range(8):
                log, ids, order = drawn_case(source, many)
                one, other = source.sample(range(many), 2)
                order[one], order[other] = order[other], order[one]
                self.assertIs(is_order_of(log, ids, order), leads(order, log), (log, order))

    def test_known_numbers(self):
        self.assertEqual(count_orders([], FULL), math.factorial(30))
        self.assertGreater(count_orders([], FULL), GREATEST)
        self.assertEqual(nth_order([], FULL, math.factorial(30) - 1), FULL[::-1])
        self.assertEqual(order_number([[]] * 12, FULL, FULL[::-1]), math.factorial(30) - 1)
        self.assertEqual(count_orders([FULL], FULL), math.factorial(30))
        self.assertEqual(count_orders([[30]], FULL), math.factorial(29))
        self.assertEqual(nth_order([[30]], FULL, 0), [30] + FULL[:-1])
        self.assertEqual(count_orders([[row] for row in range(1, 13)], FULL[:12]), 1)
        self.assertEqual([count_orders([], []), nth_order([], [], 0), order_number([], [], [])], [1, [], 0])
        self.assertEqual([blocks([], [3]), blocks([[]] * 12, [3]), blocks([], [])], [{3: (0, 0)}, {3: (12, 12)}, {}])
        self.assertEqual(blocks([[], [5], [], [9]], [1, 5, 6, 9, 10]),
                         {1: (2, 4), 5: (1, 1), 6: (4, 4), 9: (3, 3), 10: (4, 4)})


class FitsTest(ExactCase):

    def test_ids_more_and_less(self):
        for log, ids in CASES:
            returned = [row for rows in log for row in rows]
            self.assertIs(fits(log, ids), True)
            self.assertIs(fits(log, returned), True)
            for row in ids:
                self.assertIs(fits(log, [other for other in ids if other != row]), row not in returned)
        for log, ids, _ in NOT_FITTING:
            self.assertIs(fits(log, ids), False)


class IsOrderOfTest(ExactCase):

    def test_any_value(self):
        for log, ids in CASES[:40] + [(EXAMPLE_LOG, EXAMPLE_IDS)]:
            for value in WRONG_ORDERS + [[1] * 400, [Odd()] * 400, FULL + [31], [[2, 1]], [ids], tuple(ids)]:
                self.assertIs(is_order_of(log, ids, value), False)
        for value in [[2, 5, 4, 6, 7, 3, True], (2, 5, 4, 6, 7, 3, 1), [2, 5, 4, 6, 7, 3, 1.0], [2, 5, 4, 6, 7, 3, 1, 8],
                      [2, 5, 4, 6, 7, 3], [2, 5, 4, 6, 7, 3, 3], [2, 5, 4, 6, 7, 3, 8], [], [2, 5, 4, 6, 7, 3, Equal()]]:
            self.assertIs(is_order_of(EXAMPLE_LOG, EXAMPLE_IDS, value), False)

    def test_one_change(self):
        source = random.Random(7)
        for many in range(1, 31, 3):
            log, ids, order = drawn_case(source, many)
            for _ in range(60):
                value = changed(source, order)
                right = type(value) is list and all(type(row) is int for row in value)
                right = right and sorted(value) == ids and leads(value, log)
                self.assertIs(is_order_of(log, ids, value), right, (log, value))


class ErrorsTest(ExactCase):

    def all_calls(self, log, ids):
        """Return all calls with a log and ids, with right and with wrong values behind them."""
        calls = [(fits, log, ids), (blocks, log, ids), (count_orders, log, ids)]
        for value in [None, 0, -1, 1, [], [1], "1", Odd()]:
            calls += [(is_order_of, log, ids, value), (nth_order, log, ids, value), (order_number, log, ids, value)]
            calls += [(surely_ahead, log, ids, value, value), (surely_ahead, log, ids, 1, value)]
        return calls

    def test_wrong_logs_come_first(self):
        for log in WRONG_LOGS:
            for ids in [[], [1], FULL, None, [2, 1], Odd()]:
                for call in self.all_calls(log, ids):
                    self.assert_raises_exactly(InvalidLog, *call)

    def test_wrong_ids_come_next(self):
        for ids in WRONG_IDS:
            for log in [[], [[]] * 12, [[1]], EXAMPLE_LOG]:
                for call in self.all_calls(log, ids):
                    self.assert_raises_exactly(InvalidIds, *call)

    def test_not_possible(self):
        for log, ids, row in NOT_FITTING:
            calls = [(blocks, log, ids), (count_orders, log, ids)]
            for value in [None, 0, -1, [], ids, True, Odd()]:
                calls += [(is_order_of, log, ids, value), (nth_order, log, ids, value), (order_number, log, ids, value)]
            if ids:
                calls += [(surely_ahead, log, ids, ids[0], ids[-1])]
            for call in calls:
                found = self.assert_raises_exactly(NotPossible, *call)
                self.assertEqual(vars(found), {"row": row})
                self.assertIs(type(found.row), int)

    def test_wrong_ids_of_pairs_come_ahead_of_not_possible(self):
        for log, ids in [(EXAMPLE_LOG, EXAMPLE_IDS), (EXAMPLE_LOG, [1, 3]), ([], []), ([[]], [1])]:
            for value in NO_INTEGERS + [0, -1, 8, 31, GREATEST, -GREATEST, 10 ** 40]:
                for other in [1, 8, None, Odd()]:
                    self.assert_raises_exactly(InvalidId, surely_ahead, log, ids, value, other)
                if ids:
                    self.assert_raises_exactly(InvalidId, surely_ahead, log, ids, 1, value)

    def test_wrong_numbers(self):
        for log, ids in CASES:
            many = count_orders(log, ids)
            for number in NO_INTEGERS + [-1, -many, many, many + 1, 10 ** 40]:
                self.assert_raises_exactly(InvalidNumber, nth_order, log, ids, number)

    def test_wrong_orders(self):
        for log, ids in CASES:
            for order in WRONG_ORDERS + [ids + [GREATEST - 77], tuple(ids)]:
                self.assert_raises_exactly(InvalidOrder, order_number, log, ids, order)
            if ids:
                self.assert_raises_exactly(InvalidOrder, order_number, log, ids, ids[1:])
        for order in [[2, 3, 4, 5, 6, 7, 1], [2, 4, 5, 6, 7], [], [1, 2, 3, 4, 5, 6, 7]]:
            self.assert_raises_exactly(InvalidOrder, order_number, EXAMPLE_LOG, EXAMPLE_IDS, order)

    def test_right_arguments_raise_nothing(self):
        for log, ids in CASES:
            self.assertIs(type(fits(log, ids)), bool)
            self.assertIs(type(blocks(log, ids)), dict)
            self.assertIs(type(count_orders(log, ids)), int)
            self.assertIs(type(nth_order(log, ids, 0)), list)
            for value in STRANGE:
                self.assertIs(type(is_order_of(log, ids, value)), bool)
            for one, other in zip(ids, ids[::-1]):
                self.assertIs(type(surely_ahead(log, ids, one, other)), bool)


class ConventionsTest(ExactCase):

    def test_results_are_new_and_arguments_stay(self):
        for log, ids in CASES:
            self.assert_unchanged(is_log, log)
            for function in [fits, blocks, count_orders]:
                self.assert_unchanged(function, log, ids)
            self.assert_unchanged(nth_order, log, ids, count_orders(log, ids) // 3)
            order = nth_order(log, ids, 0)
            self.assert_unchanged(order_number, log, ids, order)
            self.assert_unchanged(is_order_of, log, ids, order)
            if ids:
                self.assert_unchanged(surely_ahead, log, ids, ids[0], ids[-1])

    def test_keys_are_ascending(self):
        for log, ids in CASES:
            self.assertEqual(list(blocks(log, ids)), ids)
            for span in blocks(log, ids).values():
                self.assertEqual([type(span), type(span[0]), type(span[1]), len(span)], [tuple, int, int, 2])

    def test_changed_arguments_are_read_anew(self):
        log, ids = [[2], [3]], [1, 2, 3]
        seen = [blocks(log, ids), count_orders(log, ids), nth_order(log, ids, 1), surely_ahead(log, ids, 2, 3)]
        self.assertEqual(seen, [{1: (1, 2), 2: (0, 0), 3: (1, 1)}, 2, [2, 3, 1], True])
        log[0].append(3)
        self.assertIs(is_log(log), False)
        log.pop()
        seen = [blocks(log, ids), count_orders(log, ids), nth_order(log, ids, 1), surely_ahead(log, ids, 2, 3)]
        self.assertEqual(seen, [{1: (1, 1), 2: (0, 0), 3: (0, 0)}, 2, [3, 2, 1], False])
        order = [3, 2, 1]
        self.assertEqual([is_order_of(log, ids, order), order_number(log, ids, order)], [True, 1])
        order.reverse()
        self.assertIs(is_order_of(log, ids, order), False)
        ids.remove(3)
        self.assertIs(fits(log, ids), False)
        self.assertEqual(self.assert_raises_exactly(NotPossible, blocks, log, ids).row, 3)
        ids.reverse()
        self.assert_raises_exactly(InvalidIds, fits, log, ids)
        log[0][0] = True
        self.assert_raises_exactly(InvalidLog, fits, log, ids)

    def test_the_greatest_arguments(self):
        far = [GREATEST - 30 + row for row in FULL]
        cases = [([], FULL), ([[]] * 12, far), ([FULL], FULL), ([[30]], FULL), ([[row] for row in range(2, 26, 2)], FULL),
                 ([[row] for row in far[3:27:2]], far), ([FULL[2:10:3], FULL[10:20:4], [], FULL[20:28:5]], FULL)]
        for log, ids in cases:
            last = count_orders(log, ids) - 1
            order = nth_order(log, ids, last)
            steps_of(lambda: is_log(log), 5000)
            steps_of(lambda: fits(log, ids), 20000)
            steps_of(lambda: blocks(log, ids), 20000)
            steps_of(lambda: surely_ahead(log, ids, ids[0], ids[-1]), 20000)
            steps_of(lambda: count_orders(log, ids), 20000)
            steps_of(lambda: is_order_of(log, ids, order), 20000)
            steps_of(lambda: nth_order(log, ids, last), 300000)
            steps_of(lambda: order_number(log, ids, order), 300000)


if __name__ == "__main__":
    unittest.main()
