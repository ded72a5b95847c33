"""Schedules: points [27] to [29], and the conventions [2] for them."""

import itertools
import random
import unittest

from lateids.errors import InvalidMoment, InvalidNumber, InvalidOrder
from lateids.schedules import best_schedule, greatest_loss_of, least_loss, least_loss_of, lost_between, schedule_of
from orders import EXAMPLE, GREATEST, WRONG_ORDERS, all_sets, drawn_polls, played, some_orders
from samples import NO_INTEGERS, ExactCase, Odd, steps_of

FULL = list(range(1, 31))
SPARSE = [2, 3, 9, 10, 11, 400, 10 ** 15, GREATEST]
WITH_GAP = [least_loss, best_schedule]
WITH_COUNT = [least_loss_of, greatest_loss_of]


def loss_of(order, schedule):
    """Return how many ids the polls of a plain reader lose."""
    return len(played(order, schedule).lost())


def all_schedules(many):
    """Return all schedules of an order of so many ids."""
    return [moments + [many] for moments in all_sets(range(1, many))] if many else [[]]


def greatest_gap(schedule):
    """Return the greatest step of a schedule."""
    return max([later - earlier for earlier, later in zip([0] + schedule, schedule)], default=0)


def possible_losses(order):
    """Return for each number of moments all losses of schedules, from what two polls alone lose."""
    many = len(order)
    found = {(0, 0): {0}}
    for later in range(1, many + 1):
        for earlier in range(later):
            # What the later poll loses commits behind it, and is not counted here.
            lost = loss_of(order, [earlier, later]) - loss_of(order, [later])
            for count in range(later):
                losses = {loss + lost for loss in found.get((count, earlier), set())}
                found.setdefault((count + 1, later), set()).update(losses)
    return {count: found[(count, many)] for count in range(many + 1) if found.get((count, many))}


def drawn_schedule(source, many):
    """Return a schedule; a source of random numbers chooses its moments."""
    moments = source.sample(range(1, many), source.randint(0, many - 1)) if many else []
    return sorted(moments) + [many] if many else []


class ScheduleCase(ExactCase):

    def assert_schedule(self, order, schedule):
        self.assertIs(type(schedule), list)
        self.assertEqual(schedule, sorted(set(schedule)))
        self.assertEqual(schedule[-1:], [len(order)] if order else [])
        self.assertTrue(all(type(moment) is int and 1 <= moment <= len(order) for moment in schedule))

    def check_gap(self, order, gap, least):
        self.assertEqual(least_loss(order, gap), least, (order, gap))
        schedule = best_schedule(order, gap)
        self.assert_schedule(order, schedule)
        self.assertLessEqual(greatest_gap(schedule), gap)
        self.assertEqual(loss_of(order, schedule), least, (order, gap))

    def check_count(self, order, count, losses):
        low, high = min(losses), max(losses)
        self.assertEqual(sorted(losses), list(range(low, high + 1)))
        self.assertEqual([least_loss_of(order, count), greatest_loss_of(order, count)], [low, high], (order, count))
        for loss in list(range(len(order) + 2)) + [31, 10 ** 15, GREATEST]:
            schedule = schedule_of(order, count, loss)
            if loss in losses:
                self.assert_schedule(order, schedule)
                self.assertEqual([len(schedule), loss_of(order, schedule)], [count, loss], order)
            else:
                self.assertIsNone(schedule, (order, count, loss))


class ExamplesTest(ExactCase):

    def test_lost_between(self):
        self.assertEqual([lost_between(EXAMPLE, 1, 4), lost_between(EXAMPLE, 4, 7), lost_between(EXAMPLE, 2, 7)],
                         [[1], [3], []])

    def test_best_schedules(self):
        self.assertEqual([[least_loss(EXAMPLE, gap) for gap in [1, 2, 3]], best_schedule(EXAMPLE, 1)],
                         [[3, 1, 0], [1, 2, 3, 4, 5, 6, 7]])

    def test_schedules_of_so_many_moments(self):
        self.assertEqual([least_loss_of(EXAMPLE, 2), greatest_loss_of(EXAMPLE, 2), greatest_loss_of(EXAMPLE, 4),
                          schedule_of(EXAMPLE, 1, 1)], [0, 1, 3, None])
        self.assertEqual(schedule_of([2, 1, 3], 2, 1), [1, 3])


class LostBetweenTest(ExactCase):

    def test_edges(self):
        self.assertEqual([lost_between([], 0, 0), lost_between([5], 0, 1), lost_between([5], 1, 1)], [[], [], []])
        self.assertEqual(lost_between(FULL[::-1], 1, 30), FULL[:-1])
        self.assertEqual(lost_between(FULL[::-1], 0, 30), [])
        self.assertEqual(lost_between([GREATEST, 5, 1, 9], 1, 3), [1, 5])

    def test_all_pairs_of_moments(self):
        for order in some_orders():
            for later in range(len(order) + 1):
                visible = order[:later]
                for earlier in range(later + 1):
                    top = max(order[:earlier], default=0)
                    lost = [row for row in sorted(visible) if row not in order[:earlier] and row < top]
                    self.assertEqual(lost_between(order, earlier, later), lost)

    def test_polls_lose_each_id_by_exactly_one_of_them(self):
        source = random.Random(28)
        for order in some_orders():
            for polls in drawn_polls(source, order):
                steps = polls + [len(order)]
                lost = [row for earlier, later in zip(steps, steps[1:]) for row in lost_between(order, earlier, later)]
                self.assertEqual(sorted(lost), played(order, polls).lost(), (order, polls))

    def test_sums_along_schedules(self):
        source = random.Random(29)
        for order in some_orders():
            for _ in range(5):
                schedule = drawn_schedule(source, len(order))
                pairs = list(zip([0] + schedule, schedule))
                total = sum(len(lost_between(order, earlier, later)) for earlier, later in pairs)
                self.assertEqual(total, loss_of(order, schedule))


class AllSchedulesTest(ScheduleCase):
    """Orders of at most eight ids, beside all of their schedules."""

    def check(self, order):
        losses = [(schedule, loss_of(order, schedule)) for schedule in all_schedules(len(order))]
        for gap in list(range(1, len(order) + 3)) + [31, GREATEST]:
            self.check_gap(order, gap, min(loss for schedule, loss in losses if greatest_gap(schedule) <= gap))
        for count in range(min(1, len(order)), len(order) + 1):
            self.check_count(order, count, {loss for schedule, loss in losses if len(schedule) == count})

    def test_all_orders_of_up_to_five_ids(self):
        for many in range(6):
            for order in itertools.permutations(SPARSE[-many:] if many else []):
                self.check(list(order))

    def test_drawn_orders_of_six_to_eight_ids(self):
        source = random.Random(30)
        for many in [6, 7, 8]:
            ids = SPARSE[:many]
            self.check(ids)
            self.check(ids[::-1])
            self.check(ids[-1:] + ids[:-1])
            for _ in range(40):
                self.check(source.sample(ids, many))


class LongOrdersTest(ScheduleCase):

    def test_drawn_schedules(self):
        source = random.Random(31)
        for order in some_orders():
            for _ in range(6):
                schedule = drawn_schedule(source, len(order))
                loss, gap, count = loss_of(order, schedule), max(1, greatest_gap(schedule)), len(schedule)
                self.assertLessEqual(least_loss(order, gap), loss)
                self.assertLessEqual(least_loss_of(order, count), loss)
                self.assertGreaterEqual(greatest_loss_of(order, count), loss)
                found = schedule_of(order, count, loss)
                self.assert_schedule(order, found)
                self.assertEqual([len(found), loss_of(order, found)], [count, loss])

    def test_all_gaps(self):
        for order in some_orders()[::3]:
            many = len(order)
            for gap in list(range(1, many + 2)) + [GREATEST]:
                best = [0]
                for later in range(1, many + 1):
                    ways = []
                    for earlier in range(max(0, later - gap), later):
                        top = max(order[:earlier], default=0)
                        ways.append(best[earlier] + sum(row < top for row in order[earlier:later]))
                    best.append(min(ways))
                self.check_gap(order, gap, best[many])

    def test_all_numbers_of_moments(self):
        for order in some_orders()[10::23] + [FULL, FULL[::-1], [30] + FULL[:-1]]:
            losses = possible_losses(order)
            self.assertEqual(sorted(losses), list(range(1, len(order) + 1)))
            for count in losses:
                self.check_count(order, count, losses[count])

    def test_known_losses(self):
        self.assertEqual([least_loss([], 1), best_schedule([], 1), best_schedule([], GREATEST)], [0, [], []])
        self.assertEqual([least_loss_of([], 0), greatest_loss_of([], 0), schedule_of([], 0, 0)], [0, 0, []])
        self.assertEqual([schedule_of([], 0, 1), schedule_of([], 0, GREATEST)], [None, None])
        self.assertEqual([schedule_of([7], 1, 0), schedule_of([7], 1, 1), best_schedule([7], 1)], [[1], None, [1]])
        descending = FULL[::-1]
        self.assertEqual([least_loss(descending, gap) for gap in [1, 2, 10, 29, 30, GREATEST]], [29, 28, 20, 1, 0, 0])
        self.assertEqual([least_loss_of(descending, count) for count in [1, 2, 3, 30]], [0, 1, 2, 29])
        self.assertEqual([greatest_loss_of(descending, count) for count in [1, 2, 3, 30]], [0, 29, 29, 29])
        self.assertEqual(schedule_of(descending, 2, 29), [1, 30])
        self.assertEqual([schedule_of(FULL, 30, 0), schedule_of(FULL, 30, 1)], [FULL, None])
        self.assertEqual(best_schedule(FULL, 1), FULL)


class ErrorsTest(ExactCase):

    def test_wrong_orders_come_first(self):
        for order in WRONG_ORDERS:
            for value in [0, 1, -1, None, True, "1", GREATEST + 1, Odd()]:
                for function in WITH_GAP + WITH_COUNT:
                    self.assert_raises_exactly(InvalidOrder, function, order, value)
                for other in [0, 1, -1, None, Odd()]:
                    self.assert_raises_exactly(InvalidOrder, lost_between, order, value, other)
                    self.assert_raises_exactly(InvalidOrder, schedule_of, order, value, other)

    def test_wrong_moments(self):
        for order in [[], [1], [2, 1], EXAMPLE, FULL, [GREATEST, 1]]:
            many = len(order)
            wrong = NO_INTEGERS + [-1, -many - 1, many + 1, 31, GREATEST, -GREATEST, 10 ** 40]
            for moment in wrong:
                for other in [0, many, -1, None, Odd()]:
                    self.assert_raises_exactly(InvalidMoment, lost_between, order, moment, other)
                for earlier in [0, many]:
                    self.assert_raises_exactly(InvalidMoment, lost_between, order, earlier, moment)
            for later in range(many):
                for earlier in range(later + 1, many + 1):
                    self.assert_raises_exactly(InvalidMoment, lost_between, order, earlier, later)

    def test_wrong_gaps(self):
        for order in [[], [1], EXAMPLE, FULL]:
            for gap in NO_INTEGERS + [0, -1, -GREATEST, GREATEST + 1, 10 ** 40]:
                for function in WITH_GAP:
                    self.assert_raises_exactly(InvalidNumber, function, order, gap)

    def test_wrong_numbers_of_moments(self):
        for order in [[], [1], [2, 1], EXAMPLE, FULL]:
            many = len(order)
            wrong = NO_INTEGERS + [-1, -many - 1, many + 1, 31, GREATEST, -GREATEST] + ([0] if many else [1])
            for count in wrong:
                for function in WITH_COUNT:
                    self.assert_raises_exactly(InvalidNumber, function, order, count)
                for loss in [0, 1, -1, None, Odd()]:
                    self.assert_raises_exactly(InvalidNumber, schedule_of, order, count, loss)

    def test_wrong_losses(self):
        for order in [[], [1], EXAMPLE, FULL]:
            for loss in NO_INTEGERS + [-1, -GREATEST, GREATEST + 1, 10 ** 40]:
                self.assert_raises_exactly(InvalidNumber, schedule_of, order, len(order), loss)

    def test_right_arguments_raise_nothing(self):
        for order in [[], [1], EXAMPLE, FULL, FULL[::-1], [GREATEST, 1]]:
            for gap in [1, len(order) + 1, GREATEST]:
                self.assertIs(type(least_loss(order, gap)), int)
                self.assertIs(type(best_schedule(order, gap)), list)
            for count in {min(1, len(order)), len(order)}:
                self.assertIs(type(least_loss_of(order, count)), int)
                self.assertIs(type(greatest_loss_of(order, count)), int)
                self.assertIsNone(schedule_of(order, count, GREATEST))


class ConventionsTest(ExactCase):

    def test_results_are_new_and_arguments_stay(self):
        for order in some_orders()[::4]:
            many = len(order)
            self.assert_unchanged(lost_between, order, many // 3, many)
            for gap in [1, 3, GREATEST]:
                self.assert_unchanged(least_loss, order, gap)
                self.assert_unchanged(best_schedule, order, gap)
            count = (many + 1) // 2
            self.assert_unchanged(least_loss_of, order, count)
            self.assert_unchanged(greatest_loss_of, order, count)
            for loss in [0, 1, many]:
                self.assert_unchanged(schedule_of, order, count, loss)

    def test_changed_arguments_are_read_anew(self):
        order = [3, 1, 2]
        seen = [lost_between(order, 1, 3), least_loss(order, 1), least_loss_of(order, 2), greatest_loss_of(order, 2)]
        self.assertEqual(seen + [schedule_of(order, 2, 2)], [[1, 2], 2, 1, 2, [1, 3]])
        order.sort()
        seen = [lost_between(order, 1, 3), least_loss(order, 1), least_loss_of(order, 2), greatest_loss_of(order, 2)]
        self.assertEqual(seen + [schedule_of(order, 2, 2)], [[], 0, 0, 0, None])
        order.pop()
        self.assertEqual(best_schedule(order, 1), [1, 2])
        self.assert_raises_exactly(InvalidMoment, lost_between, order, 1, 3)
        self.assert_raises_exactly(InvalidNumber, schedule_of, order, 3, 0)
        order[0] = 2
        self.assert_raises_exactly(InvalidOrder, best_schedule, order, 1)

    def test_the_greatest_arguments(self):
        for order in [FULL, FULL[::-1], [30] + FULL[:-1], [GREATEST - row for row in FULL]] + some_orders()[-7:]:
            steps_of(lambda: lost_between(order, 0, 30), 20000)
            for gap in [1, 15, GREATEST]:
                steps_of(lambda: least_loss(order, gap), 200000)
                steps_of(lambda: best_schedule(order, gap), 200000)
            for count in [1, 2, 15, 29, 30]:
                steps_of(lambda: least_loss_of(order, count), 1000000)
                steps_of(lambda: greatest_loss_of(order, count), 1000000)
                for loss in [0, 15, GREATEST]:
                    steps_of(lambda: schedule_of(order, count, loss), 1000000)


if __name__ == "__main__":
    unittest.main()
