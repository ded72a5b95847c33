"""Repair: points [44] to [46], and the conventions [2] for them."""

import random
import unittest

from lateids.errors import InvalidLog, InvalidMoment, InvalidNumber, InvalidOrder
from lateids.repair import count_ranges, found_again, is_repair, missing_runs, ranges_for
from orders import GREATEST, WRONG_ORDERS, all_sets
from readings import FULL, WRONG_LOGS, drawn_order, some_cases
from samples import NO_INTEGERS, NO_LISTS, STRANGE, Equal, ExactCase, Odd, changed, steps_of

LOG = [[2], [4, 5], [9]]
LOGS = [log for log, _ in some_cases()] + [LOG, [[2 * row for row in FULL]], [[GREATEST]], [[1], [GREATEST]],
                                           [[GREATEST - 1, GREATEST]]]


def returned_of(log):
    return [row for rows in log for row in rows]


def plain_missing(log):
    """Return the missing numbers of a log whose ids are small."""
    returned = returned_of(log)
    return [number for number in range(1, max(returned, default=0)) if number not in returned]


def plainly_a_repair(log, budget, value):
    """Return whether any value is a repair, judged number by number at the places where something changes."""
    if type(value) is not list:
        return False
    before = 0
    for item in value:
        if type(item) is not tuple or len(item) != 2 or [type(number) for number in item] != [int, int]:
            return False
        if not before < item[0] <= item[1] <= GREATEST:
            return False
        before = item[1]
    returned = returned_of(log)
    # Between neighbouring places all numbers are alike: one of them stands for all.
    places = {1} | {number + step for number in returned for step in [-1, 0, 1]}
    places |= {number + step for item in value for number in item for step in [-1, 0, 1]}
    covered = {number for number in places if any(low <= number <= high for low, high in value)}
    missing = {number for number in places if 1 <= number < max(returned, default=0) and number not in returned}
    return missing <= covered and sum(row in covered for row in returned) <= budget


def all_ranges(greatest):
    """Return all lists of ascending ranges of the numbers up to the greatest one."""
    found = [[]]
    for first in range(1, greatest + 1):
        for last in range(first, greatest + 1):
            found += [[(first, last)] + rest for rest in ranges_behind(last, greatest)]
    return found


def ranges_behind(last, greatest):
    return [[(low + last, high + last) for low, high in ranges] for ranges in all_ranges(greatest - last)]


class ExamplesTest(ExactCase):

    def test_missing_numbers(self):
        self.assertEqual([missing_runs(LOG), missing_runs([[], []]), found_again(LOG, [2, 1, 4, 5, 9, 7, 3], 6)],
                         [[(1, 1), (3, 3), (6, 8)], [], [1, 7]])

    def test_least_numbers(self):
        self.assertEqual([count_ranges(LOG, budget) for budget in [0, 1, 2, 3]], [3, 2, 2, 1])

    def test_repairs(self):
        self.assertEqual([ranges_for(LOG, 3), ranges_for([[1, 2]], 0), is_repair(LOG, 1, ranges_for(LOG, 1))],
                         [[(1, 8)], [], True])
        self.assertEqual([is_repair(LOG, budget, [(1, 3), (6, 10 ** 30)]) for budget in [1, 2]], [False, True])


class MissingTest(ExactCase):

    def test_runs_beside_all_numbers(self):
        for rows in all_sets(range(1, 10)):
            log = [rows[:2], [], rows[2:]]
            runs = missing_runs(log)
            self.assertEqual([number for first, last in runs for number in range(first, last + 1)], plain_missing(log))
            self.assertTrue(all(one[1] + 1 < other[0] for one, other in zip(runs, runs[1:])))

    def test_runs_of_all_logs(self):
        for log in LOGS:
            runs, returned = missing_runs(log), returned_of(log)
            borders = [0] + returned
            # Each run stands between two neighbouring returned ids, and each gap between them is a run.
            self.assertEqual([(first - 1, last + 1) for first, last in runs],
                             [(one, other) for one, other in zip(borders, returned) if other > one + 1])
            for run in runs:
                self.assertEqual([type(run), type(run[0]), type(run[1]), len(run)], [tuple, int, int, 2])

    def test_known_runs(self):
        self.assertEqual([missing_runs([]), missing_runs([[1]]), missing_runs([[2]]), missing_runs([FULL])],
                         [[], [], [(1, 1)], []])
        self.assertEqual(missing_runs([[GREATEST]]), [(1, GREATEST - 1)])
        self.assertEqual(missing_runs([[1], [3], [], [GREATEST]]), [(2, 2), (4, GREATEST - 1)])
        self.assertEqual(missing_runs([[GREATEST - 1, GREATEST]]), [(1, GREATEST - 2)])

    def test_found_again(self):
        source = random.Random(60)
        for log, ids in some_cases():
            returned = returned_of(log)
            cursor = max(returned, default=0)
            for order in [drawn_order(source, ids), ids[::-1], FULL, [GREATEST, cursor + 1, max(1, cursor - 1)][:2], []]:
                order = [row for row in order if row <= GREATEST]
                for moment in {0, len(order) // 2, len(order)}:
                    expected = sorted(row for row in order[:moment] if row < cursor and row not in returned)
                    self.assertEqual(found_again(log, order, moment), expected, (log, order, moment))

    def test_found_again_at_all_moments(self):
        for rows in all_sets(range(1, 7)):
            for order in [[1, 2, 3, 4, 5, 6, 7], [7, 3, 1], [6, 5, 4, 3, 2, 1], [2, 9]]:
                for moment in range(len(order) + 1):
                    expected = sorted(set(order[:moment]) & set(plain_missing([rows])))
                    self.assertEqual(found_again([rows], order, moment), expected)


class AllRepairsTest(ExactCase):
    """Small logs beside all lists of ranges."""

    def test_small_logs(self):
        ranges = all_ranges(6)
        for rows in all_sets(range(1, 7)):
            log = [rows[:1], rows[1:], []]
            missing, most = set(plain_missing(log)), {}
            for value in ranges:
                covered = {number for first, last in value for number in range(first, last + 1)}
                cost = sum(row in covered for row in rows)
                if missing <= covered:
                    most.setdefault(cost, []).append(len(value))
                for budget in {0, max(0, cost - 1), cost, cost + 1}:
                    self.assertIs(is_repair(log, budget, value), missing <= covered and cost <= budget,
                                  (log, budget, value))
            for budget in [0, 1, 2, 3, 4, 5, 6, 7, GREATEST]:
                least = min(many for cost, numbers in most.items() if cost <= budget for many in numbers)
                self.assertEqual(count_ranges(log, budget), least, (log, budget))
                found = ranges_for(log, budget)
                self.assertEqual(len(found), least)
                self.assertTrue(plainly_a_repair(log, budget, found), (log, budget, found))


class BudgetsTest(ExactCase):

    def least(self, log, budget):
        """Return the least number of ranges, tried by all numbers of runs that are joined one by one."""
        runs, returned = missing_runs(log), returned_of(log)
        # For so many ranges the least number of ids that they contain, run by run.
        costs = {0: 0}
        for at, (first, _) in enumerate(runs):
            between = sum(runs[at - 1][1] < row < first for row in returned) if at else 0
            longer = {many + 1: cost for many, cost in costs.items()}
            for many, cost in costs.items():
                if many:
                    longer[many] = min(longer.get(many, 10 ** 6), cost + between)
            costs = longer
        return min(many for many, cost in costs.items() if cost <= budget)

    def test_all_budgets(self):
        for log in LOGS:
            for budget in list(range(32)) + [10 ** 30, 10 ** 40]:
                found = ranges_for(log, budget)
                self.assertIs(is_repair(log, budget, found), True, (log, budget))
                self.assertTrue(plainly_a_repair(log, budget, found), (log, budget, found))
                self.assertEqual(len(found), count_ranges(log, budget))
                self.assertEqual(len(found), self.least(log, budget), (log, budget))
            self.assertEqual(count_ranges(log, 0), len(missing_runs(log)))
            self.assertEqual(count_ranges(log, 30), min(1, len(missing_runs(log))))

    def test_known_repairs(self):
        even = [[2 * row for row in FULL]]
        self.assertEqual([count_ranges(even, budget) for budget in [0, 1, 15, 28, 29, 30]], [30, 29, 15, 2, 1, 1])
        self.assertEqual(ranges_for(even, 29), [(1, 59)])
        self.assertEqual([count_ranges([], 0), ranges_for([], 5), count_ranges([FULL], 0)], [0, [], 0])
        self.assertEqual([ranges_for([[GREATEST]], 0), ranges_for([[5, GREATEST]], 1)], [[(1, GREATEST - 1)]] * 2)
        self.assertEqual([ranges_for([[2, 3, 5, 7, 8]], budget) for budget in [0, 1, 2, 3]],
                         [[(1, 1), (4, 4), (6, 6)], [(1, 1), (4, 6)], [(1, 1), (4, 6)], [(1, 6)]])


class IsRepairTest(ExactCase):

    def values_near(self, source, log, budget):
        """Return lists of ranges that are moved, cut, joined, left out, put in, touching or overlapping."""
        found = ranges_for(log, budget)
        values = [found, found + [(GREATEST, GREATEST)], found + [(GREATEST, GREATEST + 1)], [(1, GREATEST)],
                  [(0, GREATEST)], []]
        cursor = max(returned_of(log), default=0)
        values += [found + [(cursor + 1, cursor + 1)], found + [(cursor, cursor)], found + [(cursor + 1, GREATEST)]]
        for at, (first, last) in enumerate(found):
            middle = source.randint(first, last)
            before, behind = found[:at], found[at + 1:]
            values += [
                before + behind, before + [(first, middle), (middle + 1, last)] + behind,
                before + [(first, middle), (middle, last)] + behind,
                before + [(first, middle), (middle + 2, last)] + behind, before + [(first + 1, last)] + behind,
                before + [(first, last - 1)] + behind, before + [(first - 1, last)] + behind,
                before + [(first, last + 1)] + behind,
                before + [(first, last)] * 2 + behind, before + [(last, first)] + behind,
                before + [[first, last]] + behind,
                before + [(first, last, last)] + behind, before + [(first,)] + behind, before + [(first, True)] + behind,
            ]
            if behind:
                values += [before + [(first, behind[0][1])] + behind[1:],
                           before + [behind[0], (first, last)] + behind[1:]]
                values += [before + [(first, behind[0][0] - 1)] + behind, before + [(first, behind[0][0])] + behind]
        return values

    def test_ranges_near_a_repair(self):
        source, right, wrong = random.Random(61), 0, 0
        for log in LOGS[::2]:
            for budget in [0, 1, 5, GREATEST]:
                values = self.values_near(source, log, budget)
                values += [changed(source, source.choice(values[:6])) for _ in range(20)]
                for value in values:
                    for other in {budget, max(0, budget - 1), budget + 1}:
                        expected = plainly_a_repair(log, other, value)
                        self.assertIs(is_repair(log, other, value), expected, (log, other, value))
                        right, wrong = right + expected, wrong + (not expected)
        self.assertTrue(right > 2000 and wrong > 2000, (right, wrong))

    def test_any_value(self):
        for log in [[], [[1]], LOG, [[GREATEST]]]:
            for value in NO_LISTS + [[value] for value in STRANGE] + [[(1, 8), value] for value in STRANGE] + [
                    [(1, 8)] * 400, [(row, row) for row in range(1, 401)], [Odd()] * 400, [(Odd(), 1)], [(1, Odd())],
                    [(1, None)],
                    [(1, 8.0)], [(True, 8)], [(1.0, 8)], [("1", 8)], [(1, 8), Equal()], [(Equal(), 8)], [[(1, 8)]],
                    ((1, 8),)]:
                for budget in [0, 3, 30]:
                    self.assertIs(is_repair(log, budget, value), plainly_a_repair(log, budget, value), (log, value))

    def test_as_many_ranges_as_it_likes(self):
        self.assertIs(is_repair([[400]], 0, [(row, row) for row in range(1, 400)]), True)
        self.assertIs(is_repair([[400]], 1, [(row, row) for row in range(1, 401)]), True)
        self.assertIs(is_repair([[400]], 0, [(row, row) for row in range(1, 400) if row != 77]), False)
        self.assertIs(is_repair([[1]], 0, [(row, row) for row in range(2, 402)]), True)


class ErrorsTest(ExactCase):

    def test_wrong_logs_come_first(self):
        for log in WRONG_LOGS:
            self.assert_raises_exactly(InvalidLog, missing_runs, log)
            for value in [0, 1, -1, None, Odd()]:
                self.assert_raises_exactly(InvalidLog, count_ranges, log, value)
                self.assert_raises_exactly(InvalidLog, ranges_for, log, value)
                self.assert_raises_exactly(InvalidLog, is_repair, log, value, [(1, 2)])
                self.assert_raises_exactly(InvalidLog, found_again, log, [1], value)
                self.assert_raises_exactly(InvalidLog, found_again, log, value, value)

    def test_wrong_orders_and_moments(self):
        for log in [[], [[]] * 12, LOG, [FULL]]:
            for order in WRONG_ORDERS:
                for moment in [0, -1, None, Odd()]:
                    self.assert_raises_exactly(InvalidOrder, found_again, log, order, moment)
            for order in [[], [1], FULL, [GREATEST, 1]]:
                for moment in NO_INTEGERS + [-1, len(order) + 1, 31, GREATEST, -GREATEST, 10 ** 40]:
                    self.assert_raises_exactly(InvalidMoment, found_again, log, order, moment)

    def test_wrong_budgets(self):
        for log in [[], [[]] * 12, LOG, [FULL]]:
            for budget in NO_INTEGERS + [-1, -2, -GREATEST, -10 ** 40]:
                self.assert_raises_exactly(InvalidNumber, count_ranges, log, budget)
                self.assert_raises_exactly(InvalidNumber, ranges_for, log, budget)
                for value in [[], [(1, 8)], None, Odd()]:
                    self.assert_raises_exactly(InvalidNumber, is_repair, log, budget, value)

    def test_right_arguments_raise_nothing(self):
        for log in LOGS:
            self.assertIs(type(missing_runs(log)), list)
            for budget in [0, 1, 30, GREATEST]:
                self.assertIs(type(count_ranges(log, budget)), int)
                self.assertIs(type(ranges_for(log, budget)), list)
                for value in STRANGE:
                    self.assertIs(type(is_repair(log, budget, value)), bool)
            for order in [[], [1], FULL, [GREATEST]]:
                self.assertIs(type(found_again(log, order, len(order))), list)


class ConventionsTest(ExactCase):

    def test_results_are_new_and_arguments_stay(self):
        for log in LOGS:
            self.assert_unchanged(missing_runs, log)
            self.assert_unchanged(found_again, log, FULL, 20)
            for budget in [0, 3, GREATEST]:
                self.assert_unchanged(count_ranges, log, budget)
                self.assert_unchanged(ranges_for, log, budget)
                self.assert_unchanged(is_repair, log, budget, ranges_for(log, budget))

    def test_changed_arguments_are_read_anew(self):
        log, order = [[2], [5]], [3, 1, 4]
        seen = [missing_runs(log), found_again(log, order, 2), count_ranges(log, 0), ranges_for(log, 1)]
        self.assertEqual(seen, [[(1, 1), (3, 4)], [1, 3], 2, [(1, 4)]])
        log[0].append(3)
        seen = [missing_runs(log), found_again(log, order, 2), count_ranges(log, 1), ranges_for(log, 2)]
        self.assertEqual(seen, [[(1, 1), (4, 4)], [1], 2, [(1, 4)]])
        order.reverse()
        self.assertEqual(found_again(log, order, 2), [1, 4])
        ranges = ranges_for(log, 0)
        self.assertIs(is_repair(log, 0, ranges), True)
        ranges.pop()
        self.assertIs(is_repair(log, 0, ranges), False)
        order.append(order[0])
        self.assert_raises_exactly(InvalidOrder, found_again, log, order, 2)
        log.reverse()
        self.assert_raises_exactly(InvalidLog, missing_runs, log)

    def test_the_greatest_arguments(self):
        far = [[GREATEST - 60 + 2 * row for row in FULL]]
        many = [(2 * row - 1, 2 * row) for row in range(1, 401)]
        for log in [[[2 * row for row in FULL]], far, [[row] for row in range(2, 26, 2)], [[GREATEST]]]:
            steps_of(lambda: missing_runs(log), 10000)
            steps_of(lambda: found_again(log, FULL, 30), 50000)
            for budget in [0, 15, GREATEST]:
                steps_of(lambda: count_ranges(log, budget), 50000)
                steps_of(lambda: ranges_for(log, budget), 50000)
                steps_of(lambda: is_repair(log, budget, ranges_for(log, budget)), 100000)
                steps_of(lambda: is_repair(log, budget, many), 1000000)


if __name__ == "__main__":
    unittest.main()
