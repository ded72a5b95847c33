"""Readers: points [6], [8] and [20] to [23], and the conventions [2] for them."""

import inspect
import itertools
import random
import unittest

from lateids.errors import InvalidNumber, InvalidOrder, InvalidPolls
from lateids.moments import danger_of
from lateids.readers import lost_ids, read, states, walk_polls
from orders import (
    ALL_ORDERS, EXAMPLE, GREATEST, WRONG_ORDERS, all_polls, drawn_polls, played, some_orders, wrong_polls,
)
from samples import NO_INTEGERS, ExactCase, Odd, steps_of

FUNCTIONS = [read, states, lost_ids]
KINDS = [("plain", None)] + [("wait", 0)] + [
    (kind, margin) for kind in ["overlap", "wait", "page"] for margin in [1, 2, 3, 30, GREATEST]]
FULL = list(range(1, 31))


def walked(order, polls):
    return list(walk_polls(order, polls))


def first_walked(order, polls):
    return next(walk_polls(order, polls), None)


def named(kind, margin):
    return {} if kind == "plain" else {kind: margin}


class BesideAPlayerTest(ExactCase):

    def check(self, order, polls, kind, margin):
        player = played(order, polls, kind, margin)
        case = (order, polls, kind, margin)
        self.assertEqual(read(order, polls, **named(kind, margin)), player.lists, case)
        found = states(order, polls, **named(kind, margin))
        self.assertEqual(list(found.items()), list(player.states().items()), case)
        self.assertEqual(lost_ids(order, polls, **named(kind, margin)), player.lost(), case)
        if kind == "plain":
            self.assertEqual(walked(order, polls), list(zip(player.lists, player.cursors)), case)

    def test_all_small_orders_and_polls(self):
        for many in range(5):
            for order in itertools.permutations([1, 2, 4, 9][:many]):
                for polls in all_polls(many, 4):
                    for kind, margin in KINDS[:1] + [("overlap", 3), ("wait", 1), ("wait", 2), ("page", 1)]:
                        self.check(list(order), polls, kind, margin)

    def test_orders_of_all_kinds(self):
        source = random.Random(20)
        for order in some_orders():
            for polls in drawn_polls(source, order):
                chosen = [KINDS[0]] + source.sample(KINDS[1:], 5)
                if len(order) > 1:
                    chosen.append(("overlap", abs(source.choice(order) - source.choice(order)) + 1))
                for kind, margin in chosen:
                    self.check(order, polls, kind, margin)

    def test_every_margin_for_thirty_ids(self):
        source = random.Random(8)
        mixed = source.sample(FULL, 30)
        for order in [mixed, FULL[::-1], [30] + FULL[:-1]]:
            for polls in drawn_polls(source, order):
                for kind, margin in itertools.product(["overlap", "wait", "page"], range(1, 32)):
                    self.check(order, polls, kind, margin)


class ReadTest(ExactCase):

    def test_example(self):
        self.assertEqual(
            [read(EXAMPLE, [1, 4, 7]), read(EXAMPLE, [1, 4, 7], overlap=2), read(EXAMPLE, [4, 6, 6], page=2)],
            [[[2], [4, 5], [6, 7]], [[2], [1, 4, 5], [6, 7]], [[1, 2], [3, 4], [5, 7]]])

    def test_edges(self):
        self.assertEqual([read([], []), read([], [0, 0]), read([5], []), read([5], [0, 1, 1])],
                         [[], [[], []], [], [[], [5], []]])
        self.assertEqual(read([GREATEST, 1], [1, 2]), [[GREATEST], []])
        self.assertEqual(read([GREATEST, 1], [1, 2], overlap=GREATEST - 1), [[GREATEST], []])
        self.assertEqual(read([GREATEST, 1], [1, 2], overlap=GREATEST), [[GREATEST], [1]])
        self.assertEqual(read(FULL, [30] * 30, page=1), [[row] for row in FULL])
        self.assertEqual(read(FULL[::-1], list(range(1, 31)), wait=29), [[row] for row in FULL[::-1]])
        self.assertEqual(read(FULL[::-1], list(range(1, 31)), overlap=30), [[row] for row in FULL[::-1]])

    def test_margins_of_a_plain_reader(self):
        for order in ALL_ORDERS[::7]:
            polls = [len(order) // 3, len(order) // 2, len(order)]
            plain = read(order, polls)
            self.assertEqual(read(order, polls, overlap=1), plain)
            self.assertEqual(read(order, polls, wait=0), plain)
            self.assertEqual(read(order, polls, page=None), plain)
            self.assertEqual(read(order, polls, overlap=1, wait=0, page=None), plain)

    def test_polls_that_return_nothing_count_for_a_wait(self):
        order = [2, 3, 1]
        self.assertEqual(read(order, [1, 1, 1, 3], wait=2), [[2], [], [], [3]])
        self.assertEqual(read(order, [1, 1, 1, 3], wait=3), [[2], [], [], [1, 3]])

    def test_a_wait_keeps_an_id_behind_a_poll_that_passes_it_only(self):
        # The second poll returns 9, but 1 was passed by the first one.
        self.assertEqual(read([5, 9, 1], [1, 2, 3], wait=1), [[5], [9], []])
        self.assertEqual(read([5, 9, 1], [1, 2, 3], wait=2), [[5], [9], [1]])
        # 7 is passed by the second one.
        self.assertEqual(read([5, 9, 7, 1], [1, 2, 4], wait=1), [[5], [9], [7]])

    def test_an_overlap_is_counted_from_the_cursor_ahead_of_the_poll(self):
        self.assertEqual(read([5, 9, 4], [1, 3], overlap=2), [[5], [4, 9]])
        self.assertEqual(read([5, 9, 4], [2, 3], overlap=5), [[5, 9], []])
        self.assertEqual(read([5, 9, 4], [2, 3], overlap=6), [[5, 9], [4]])
        self.assertEqual(read([5, 9, 4], [2, 3, 3], overlap=GREATEST), [[5, 9], [4], []])

    def test_a_page_loses_what_its_cursor_has_gone_past(self):
        self.assertEqual(read([2, 1, 3], [1, 3], page=1), [[2], [3]])
        self.assertEqual(states([2, 1, 3], [1, 3], page=1), {1: "lost", 2: "read", 3: "read"})
        self.assertEqual(states([3, 2, 1], [3], page=1), {1: "read", 2: "open", 3: "open"})


class StatesTest(ExactCase):

    def test_example(self):
        self.assertEqual(
            [states(EXAMPLE, [1, 4]), lost_ids(EXAMPLE, [1, 3, 4, 7]), lost_ids(EXAMPLE, [1, 3, 4, 7], wait=1)],
            [{1: "lost", 2: "read", 3: "lost", 4: "read", 5: "read", 6: "open", 7: "open"}, [1, 3], [3]])

    def test_edges(self):
        self.assertEqual([states([], []), states([], [0]), lost_ids([], [0])], [{}, {}, []])
        self.assertEqual([states([GREATEST], []), states([GREATEST], [0]), states([GREATEST], [1])],
                         [{GREATEST: "open"}, {GREATEST: "open"}, {GREATEST: "read"}])
        self.assertEqual(lost_ids(FULL[::-1], [1]), FULL[:-1])
        self.assertEqual(lost_ids(FULL, FULL), [])
        self.assertEqual(states([2, 1], [1]), {1: "lost", 2: "read"})

    def test_keys_are_ascending(self):
        for order in ALL_ORDERS:
            self.assertEqual(list(states(order, [len(order) // 2])), sorted(order))


class WalkTest(ExactCase):

    def test_example(self):
        self.assertEqual(list(walk_polls([2, 1, 4], [0, 1, 3])), [([], 0), ([2], 2), ([4], 4)])

    def test_it_is_a_generator_of_tuples(self):
        self.assertTrue(inspect.isgeneratorfunction(walk_polls))
        walk = walk_polls(EXAMPLE, [1, 4, 7])
        self.assertTrue(inspect.isgenerator(walk))
        for step in walk:
            self.assertIs(type(step), tuple)
            self.assertEqual([type(part) for part in step], [list, int])
        self.assertEqual([walked(EXAMPLE, []), walked([], []), walked([], [0])], [[], [], [([], 0)]])

    def test_it_can_be_stopped(self):
        walk = walk_polls(EXAMPLE, [1, 4, 7])
        self.assertEqual(next(walk), ([2], 2))
        walk.close()
        self.assertEqual(list(walk), [])
        for step in walk_polls(EXAMPLE, [1, 4, 7]):
            break
        self.assertEqual(step, ([2], 2))

    def test_two_walks_are_independent(self):
        one, other = walk_polls(EXAMPLE, [1, 4, 7]), walk_polls(EXAMPLE, [1, 4, 7])
        self.assertEqual([next(one), next(one)], [([2], 2), ([4, 5], 5)])
        self.assertEqual(list(other), [([2], 2), ([4, 5], 5), ([6, 7], 7)])
        self.assertEqual(list(one), [([6, 7], 7)])

    def test_yielded_lists_can_be_changed(self):
        source = random.Random(22)
        for order in some_orders()[::5]:
            for polls in drawn_polls(source, order):
                expected = walked(order, polls)
                found = []
                for rows, cursor in walk_polls(order, polls):
                    found.append((list(rows), cursor))
                    rows.append(GREATEST)
                    rows.insert(0, 1)
                self.assertEqual(found, expected)
                found = []
                for rows, cursor in walk_polls(order, polls):
                    found.append((list(rows), cursor))
                    rows.clear()
                self.assertEqual(found, expected)
                self.assertEqual(walked(order, polls), expected)

    def test_arguments_can_be_changed_while_it_goes_on(self):
        order, polls = list(EXAMPLE), [1, 4, 7]
        walk = walk_polls(order, polls)
        found = [next(walk)]
        order.clear()
        polls.append("no moment")
        self.assertEqual(found + list(walk), [([2], 2), ([4, 5], 5), ([6, 7], 7)])


class LossesTest(ExactCase):
    """Points [4] and [23]: what the polls lose one by one, and what a page loses."""

    def test_example(self):
        self.assertEqual([lost_ids(EXAMPLE, polls) for polls in [[1, 7], [3, 7], [1, 3, 7]]], [[1], [3], [1, 3]])

    def test_polls_lose_what_one_of_them_alone_makes_lost(self):
        source = random.Random(23)
        for order in ALL_ORDERS[::3]:
            for polls in drawn_polls(source, order):
                alone = {row for moment in polls for row in lost_ids(order, [moment])}
                lost = lost_ids(order, polls)
                self.assertEqual(lost, sorted(alone))
                endangered = []
                for row in sorted(order):
                    danger = danger_of(order, row)
                    if danger and any(danger[0] <= moment <= danger[1] for moment in polls):
                        endangered.append(row)
                self.assertEqual(lost, endangered)

    def test_a_page_loses_no_more_than_a_plain_reader(self):
        source = random.Random(24)
        for order in ALL_ORDERS[::3]:
            for polls in drawn_polls(source, order):
                plain = lost_ids(order, polls)
                for page in [1, 2, 5, 30]:
                    self.assertTrue(set(lost_ids(order, polls, page=page)) <= set(plain))


class ErrorsTest(ExactCase):

    def test_wrong_orders_come_first(self):
        for order in WRONG_ORDERS:
            for polls in [[], [0], [1], None, "1", [True], Odd()]:
                for function in FUNCTIONS + [walked, first_walked]:
                    self.assert_raises_exactly(InvalidOrder, function, order, polls)
                for function in FUNCTIONS:
                    self.assert_raises_exactly(InvalidOrder, function, order, polls, overlap=0, wait=None, page=Odd())

    def test_wrong_polls_come_next(self):
        for order in [[], [1], [2, 1], EXAMPLE, FULL, [GREATEST, 1]]:
            for polls in wrong_polls(order):
                for function in FUNCTIONS + [walked, first_walked]:
                    self.assert_raises_exactly(InvalidPolls, function, order, polls)
                for function in FUNCTIONS:
                    self.assert_raises_exactly(InvalidPolls, function, order, polls, overlap=True, wait=-1, page=0)

    def test_wrong_margins(self):
        too_small = [-1, -2, -GREATEST, -10 ** 40]
        wrong = {
            "overlap": NO_INTEGERS + too_small + [0],
            "wait": NO_INTEGERS + too_small,
            "page": [value for value in NO_INTEGERS if value is not None] + too_small + [0],
        }
        for function in FUNCTIONS:
            for order, polls in [([], []), (EXAMPLE, [1, 4, 7]), (FULL, [30] * 30)]:
                for name, values in wrong.items():
                    for value in values:
                        self.assert_raises_exactly(InvalidNumber, function, order, polls, **{name: value})

    def test_one_margin_only(self):
        for function in FUNCTIONS:
            for names in [("overlap", "wait"), ("overlap", "page"), ("wait", "page"), ("overlap", "wait", "page")]:
                for values in itertools.product([2, 3, GREATEST], repeat=len(names)):
                    self.assert_raises_exactly(InvalidNumber, function, EXAMPLE, [1], **dict(zip(names, values)))
            self.assert_raises_exactly(InvalidNumber, function, EXAMPLE, [1], overlap=2, page=1)
            self.assert_raises_exactly(InvalidNumber, function, EXAMPLE, [1], wait=1, page=1)

    def test_right_arguments_raise_nothing(self):
        for function in FUNCTIONS:
            for order, polls in [([], []), ([], [0] * 30), (FULL, [0] * 30), (FULL, [30] * 30), ([GREATEST], [0, 1])]:
                for more in [{"overlap": 1}, {"overlap": 1, "page": 1}, {"overlap": 1, "wait": 1}, {"overlap": 2},
                             {"wait": 0, "page": 1}, {"wait": 0, "overlap": 2}, {"page": None, "wait": 1},
                             {"page": None, "overlap": 2, "wait": 0}, {"overlap": 1, "wait": 0, "page": 1},
                             {"overlap": GREATEST}, {"wait": GREATEST}, {"page": GREATEST}]:
                    function(order, polls, **more)

    def test_margins_are_passed_by_name(self):
        for function in FUNCTIONS:
            with self.assertRaises(TypeError):
                function(EXAMPLE, [1], 1)
        with self.assertRaises(TypeError):
            walk_polls(EXAMPLE, [1], overlap=1)


class ConventionsTest(ExactCase):

    def test_results_are_new_and_arguments_stay(self):
        source = random.Random(2)
        for order in some_orders()[::3]:
            for polls in drawn_polls(source, order):
                for more in [{}, {"overlap": 3}, {"wait": 2}, {"page": 2}]:
                    for function in FUNCTIONS:
                        self.assert_unchanged(function, order, polls, **more)
                self.assert_unchanged(walked, order, polls)

    def test_changed_arguments_are_read_anew(self):
        order, polls = [2, 1, 3], [1, 3]
        seen = [read(order, polls), states(order, polls), lost_ids(order, polls), walked(order, polls)]
        self.assertEqual(seen, [[[2], [3]], {1: "lost", 2: "read", 3: "read"}, [1], [([2], 2), ([3], 3)]])
        order.sort()
        seen = [read(order, polls), states(order, polls), lost_ids(order, polls), walked(order, polls)]
        self.assertEqual(seen, [[[1], [2, 3]], {1: "read", 2: "read", 3: "read"}, [], [([1], 1), ([2, 3], 3)]])
        polls.pop()
        seen = [read(order, polls), states(order, polls), lost_ids(order, polls), walked(order, polls)]
        self.assertEqual(seen, [[[1]], {1: "read", 2: "open", 3: "open"}, [], [([1], 1)]])
        polls.append(4)
        for function in FUNCTIONS + [walked]:
            self.assert_raises_exactly(InvalidPolls, function, order, polls)
        order[0] = 3
        for function in FUNCTIONS + [walked]:
            self.assert_raises_exactly(InvalidOrder, function, order, polls)

    def test_the_greatest_arguments(self):
        for order in [FULL, FULL[::-1], [30] + FULL[:-1], [GREATEST - row for row in FULL]]:
            for polls in [[15] * 30, list(range(1, 31)), [30] * 30]:
                for more in [{}, {"overlap": GREATEST}, {"wait": GREATEST}, {"page": GREATEST}, {"page": 1}]:
                    for function in FUNCTIONS:
                        steps_of(lambda: function(order, polls, **more), 200000)
                steps_of(lambda: walked(order, polls), 200000)


if __name__ == "__main__":
    unittest.main()
