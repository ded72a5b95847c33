"""Counts: points [12] and [41] to [43], and the conventions [2] for them."""

import itertools
import math
import random
import unittest

from lateids.counts import count_logs, counts_fit, lost_numbers, nth_log, states_by
from lateids.errors import InvalidCounts, InvalidIds, InvalidNumber, NoFit
from lateids.logs import fits, is_log
from orders import GREATEST, all_sets
from readings import EXAMPLE_IDS, FULL, WRONG_IDS, drawn_ids, some_cases
from samples import NO_INTEGERS, NO_LISTS, Equal, ExactCase, Odd, changed, steps_of

EXAMPLE_COUNTS = [(1, 2), (2, 5), (1, 7)]

# (2, 1) is no list, but a count.
WRONG_PAIRS = NO_INTEGERS + [value for value in NO_LISTS if type(value) is not tuple or value != (2, 1)] + [
    0, 1, (0,), (0, 0, 0), (0, 1, 2), [0, 0], [1, 2], (-1, 0), (0, -1), (31, 2), (0, GREATEST + 1), (GREATEST, 2),
    (10 ** 40, 10 ** 40),
    (True, 2), (1, True), (False, 0), (0, False), (None, 0), (0, None), (1.0, 2), (1, 2.0), ("1", 2), (1, "2"),
    ((1,), 2), (1, (2,)),
    (Odd(), 2), (1, Odd()), (Equal(), 2), (1, Equal()), "12", {1: 2, 2: 3},
]
WRONG_COUNTS = NO_LISTS + [
    [(0, 0)] * 13, [(1, row) for row in range(1, 14)], ((0, 0),), [[0, 0]], [0, 0], [[(0, 0)]], [Odd()] * 400,
    [(0, 0)] * 400,
] + [[value] for value in WRONG_PAIRS] + [[(1, 2), value] for value in WRONG_PAIRS]


def counts_of(log):
    """Return the numbers and cursors of a log."""
    counts, cursor = [], 0
    for rows in log:
        cursor = max([cursor, *rows])
        counts.append((len(rows), cursor))
    return counts


def all_logs(ids, most):
    """Return all logs of at most so many polls that fit the ids."""
    logs = []
    for rows in all_sets(ids):
        for many in range(most + 1):
            for cuts in itertools.combinations_with_replacement(range(len(rows) + 1), max(0, many - 1)):
                ends = [0, *cuts, len(rows)]
                if many or not rows:
                    logs.append([rows[low:high] for low, high in zip(ends, ends[1:])][:many])
    return logs


def plain_states(log, ids):
    """Return what is known of each id behind the polls of one log."""
    cursor = max([0] + [row for rows in log for row in rows])
    found = {row: "lost" if row < cursor else "open" for row in ids}
    found.update({row: "read" for rows in log for row in rows})
    return found


def plainly_counts(value):
    """Return whether any value is a list of counts."""
    if type(value) is not list or len(value) > 12:
        return False
    for item in value:
        if type(item) is not tuple or len(item) != 2 or [type(number) for number in item] != [int, int]:
            return False
        if not 0 <= item[0] <= 30 or not 0 <= item[1] <= GREATEST:
            return False
    return True


def plainly_fit(counts, ids):
    """Return whether counts fit, from the words of point [41]."""
    old = 0
    for number, cursor in counts:
        if cursor < old or cursor == old and number != 0:
            return False
        if cursor > old and (cursor not in ids or not 1 <= number <= sum(old < row <= cursor for row in ids)):
            return False
        old = cursor
    return True


class ExamplesTest(ExactCase):

    def test_fitting(self):
        values = [[(1, 2), (2, 5), (0, 5), (1, 7)], [(3, 2)], [(1, 2), (0, 5)], [(1, 9)], []]
        self.assertEqual([counts_fit(counts, EXAMPLE_IDS) for counts in values], [True, False, False, False, True])

    def test_states(self):
        ids = [1, 2, 3, 4, 5, 6, 7, 9]
        self.assertEqual(
            [lost_numbers(EXAMPLE_COUNTS, ids), states_by(EXAMPLE_COUNTS, ids)],
            [[1, 1, 1],
             {1: "lost", 2: "read", 3: "unknown", 4: "unknown", 5: "read", 6: "lost", 7: "read", 9: "open"}])

    def test_logs(self):
        counts, ids = EXAMPLE_COUNTS, EXAMPLE_IDS
        self.assertEqual([count_logs(counts, ids), nth_log(counts, ids, 0), nth_log(counts, ids, 1),
                          count_logs([(1, 9)], ids)],
                         [2, [[2], [3, 5], [7]], [[2], [4, 5], [7]], 0])


class AllLogsTest(ExactCase):
    """Beside all logs of a few polls."""

    def check(self, ids, most):
        found = {}
        for log in all_logs(ids, most):
            self.assertTrue(is_log(log) and fits(log, ids))
            found.setdefault(tuple(counts_of(log)), []).append(log)
        for counts, logs in found.items():
            counts, logs, case = list(counts), sorted(logs), (counts, ids)
            self.assertIs(counts_fit(counts, ids), True, case)
            self.assertEqual(count_logs(counts, ids), len(logs), case)
            self.assertEqual([nth_log(counts, ids, number) for number in range(len(logs))], logs, case)
            self.assert_raises_exactly(InvalidNumber, nth_log, counts, ids, len(logs))
            olds = [0] + [cursor for _, cursor in counts]
            lost = [sum(old < row < cursor and row not in rows for row in ids)
                    for old, (_, cursor), rows in zip(olds, counts, logs[0])]
            self.assertEqual(lost_numbers(counts, ids), lost, case)
            told = {}
            for row in ids:
                words = {plain_states(log, ids)[row] for log in logs}
                told[row] = words.pop() if len(words) == 1 else "unknown"
            self.assertEqual(states_by(counts, ids), told, case)
            self.assertEqual(list(states_by(counts, ids)), ids)
        return {counts for counts in found}

    def check_not_fitting(self, counts, ids):
        self.assertIs(counts_fit(counts, ids), False, (counts, ids))
        self.assertEqual(count_logs(counts, ids), 0)
        for function in [lost_numbers, states_by]:
            self.assertEqual(vars(self.assert_raises_exactly(NoFit, function, counts, ids)), {"reader": 0})
        for number in [0, 1, -1, None]:
            self.assert_raises_exactly(InvalidNumber, nth_log, counts, ids, number)

    def test_all_counts_of_a_few_polls(self):
        for ids, most in [([], 3), ([1], 3), ([2], 2), ([1, 2, 3], 2), ([2, 5, 6, GREATEST], 2), ([1, 2, 4], 3)]:
            right = self.check(ids, most)
            cursors = sorted({0, 1, 3, GREATEST} | set(ids))
            pairs = list(itertools.product(range(len(ids) + 2), cursors))
            for many in range(most + 1):
                for counts in itertools.product(pairs, repeat=many):
                    if counts not in right and (many < 3 or hash(counts) % 7 == 0):
                        self.check_not_fitting(list(counts), ids)

    def test_more_ids(self):
        self.check([1, 2, 3, 5, 8], 3)
        self.check([3, 4, 5, 6, 7, 8, 9], 2)


class LongCountsTest(ExactCase):

    def test_counts_of_logs(self):
        source = random.Random(50)
        for log, ids in some_cases():
            counts = counts_of(log)
            self.assertIs(counts_fit(counts, ids), True)
            many = count_logs(counts, ids)
            numbers = sorted({0, many - 1, many // 2} | {source.randrange(many) for _ in range(6)})
            logs = [nth_log(counts, ids, number) for number in numbers]
            self.assertEqual(logs, sorted(logs))
            self.assertEqual(len({repr(found) for found in logs}), len(numbers))
            for found in logs:
                self.assertTrue(is_log(found) and fits(found, ids))
                self.assertEqual(counts_of(found), counts)
            self.check_known(counts, ids, logs)
            plain = plain_states(log, ids)
            told = states_by(counts, ids)
            for row in ids:
                self.assertIn(told[row], [plain[row], "unknown"])
                self.assertEqual(told[row] == "open", plain[row] == "open")

    def check_known(self, counts, ids, logs):
        """Check the first and the last log, and the numbers of lost ids."""
        self.assertEqual(sum(lost_numbers(counts, ids)),
                         sum(word == "lost" for word in plain_states(logs[0], ids).values()))
        old, first, last = 0, [], []
        for number, cursor in counts:
            rows = [row for row in ids if old < row < cursor]
            first.append(rows[:number - 1] + [cursor] if number else [])
            last.append(rows[len(rows) - number + 1:] + [cursor] if number else [])
            old = cursor
        self.assertEqual([logs[0], logs[-1]], [first, last])

    def test_all_numbers(self):
        source = random.Random(51)
        for _ in range(60):
            ids = drawn_ids(source, 9)
            ends = sorted(source.sample(range(1, 10), 2))
            counts = [(source.randint(1, ends[0]), ids[ends[0] - 1]), (0, ids[ends[0] - 1]),
                      (source.randint(1, ends[1] - ends[0]), ids[ends[1] - 1])]
            logs = [nth_log(counts, ids, number) for number in range(count_logs(counts, ids))]
            self.assertEqual(logs, sorted(logs))
            self.assertEqual(len({repr(log) for log in logs}), len(logs))
            self.assertTrue(all(counts_of(log) == counts and fits(log, ids) for log in logs))

    def test_one_change(self):
        source, wrong = random.Random(52), 0
        for log, ids in some_cases():
            for _ in range(40):
                value = changed(source, counts_of(log))
                if not plainly_counts(value):
                    self.assert_raises_exactly(InvalidCounts, counts_fit, value, ids)
                    continue
                right = plainly_fit(value, ids)
                self.assertIs(counts_fit(value, ids), right, (value, ids))
                self.assertEqual(count_logs(value, ids) > 0, right)
                wrong += not right
        self.assertGreater(wrong, 300)

    def test_one_poll_of_thirty_ids(self):
        for many in range(1, 31):
            counts = [(many, 30)]
            self.assertEqual(count_logs(counts, FULL), math.comb(29, many - 1))
            last = math.comb(29, many - 1) - 1
            self.assertEqual([nth_log(counts, FULL, 0), nth_log(counts, FULL, last)],
                             [[FULL[:many - 1] + [30]], [FULL[30 - many:]]])
            self.assertEqual(lost_numbers(counts, FULL), [30 - many])
            word = {1: "lost", 30: "read"}.get(many, "unknown")
            self.assertEqual(states_by(counts, FULL), {row: "read" if row == 30 else word for row in FULL})
        self.assertEqual(nth_log([(3, 30)], FULL, 28), [[2, 3, 30]])
        self.assertIs(counts_fit([(30, 30)], FULL[1:]), False)

    def test_known_counts(self):
        self.assertEqual([counts_fit([], []), lost_numbers([], FULL), count_logs([], FULL), nth_log([], FULL, 0)],
                         [True, [], 1, []])
        self.assertEqual([states_by([], [1, 5]), states_by([], [])], [{1: "open", 5: "open"}, {}])
        self.assertEqual([lost_numbers([(0, 0)] * 12, FULL), nth_log([(0, 0)] * 12, [], 0)], [[0] * 12, [[]] * 12])
        self.assertEqual([counts_fit([(1, 0)], FULL), counts_fit([(0, 1)], FULL), counts_fit([(1, 5), (1, 4)], FULL)],
                         [False] * 3)
        self.assertEqual([counts_fit([(1, 5), (1, 5)], FULL), counts_fit([(1, 5), (2, 6)], FULL)], [False] * 2)
        self.assertEqual(counts_fit([(1, row) for row in range(1, 13)], FULL), True)
        self.assertEqual(lost_numbers([(1, GREATEST)], [1, 2, GREATEST]), [2])


class ErrorsTest(ExactCase):

    def all_calls(self, counts, ids):
        calls = [(function, counts, ids) for function in [counts_fit, lost_numbers, states_by, count_logs]]
        return calls + [(nth_log, counts, ids, value) for value in [None, 0, -1, Odd()]]

    def test_wrong_counts_come_first(self):
        for counts in WRONG_COUNTS:
            self.assertFalse(plainly_counts(counts))
            for ids in [[], EXAMPLE_IDS, None, [2, 1], Odd()]:
                for call in self.all_calls(counts, ids):
                    self.assert_raises_exactly(InvalidCounts, *call)

    def test_wrong_ids_come_next(self):
        for ids in WRONG_IDS:
            for counts in [[], [(0, 0)] * 12, EXAMPLE_COUNTS, [(1, 9)], [(30, GREATEST)]]:
                for call in self.all_calls(counts, ids):
                    self.assert_raises_exactly(InvalidIds, *call)

    def test_wrong_numbers(self):
        for counts, ids in [(EXAMPLE_COUNTS, EXAMPLE_IDS), ([], []), ([(15, 30)], FULL), ([(1, 9)], [1]),
                            ([(3, 2)], FULL)]:
            many = count_logs(counts, ids)
            for number in NO_INTEGERS + [-1, -many - 1, many, many + 1, GREATEST, 10 ** 40]:
                self.assert_raises_exactly(InvalidNumber, nth_log, counts, ids, number)

    def test_right_arguments_raise_nothing(self):
        for log, ids in some_cases():
            counts = counts_of(log)
            kinds = [type(function(counts, ids)) for function in [counts_fit, lost_numbers, states_by, count_logs]]
            self.assertEqual(kinds, [bool, list, dict, int])
            self.assertIs(type(nth_log(counts, ids, 0)), list)
        for counts in [[(30, GREATEST)], [(0, GREATEST)], [(30, 0)], [(5, 5), (5, 4)]]:
            for ids in [[], [1], FULL]:
                self.assertEqual([counts_fit(counts, ids), count_logs(counts, ids)], [False, 0])


class ConventionsTest(ExactCase):

    def test_results_are_new_and_arguments_stay(self):
        for log, ids in some_cases():
            counts = counts_of(log)
            for function in [counts_fit, lost_numbers, states_by, count_logs]:
                self.assert_unchanged(function, counts, ids)
            self.assert_unchanged(nth_log, counts, ids, count_logs(counts, ids) // 2)

    def test_changed_arguments_are_read_anew(self):
        counts, ids = [(1, 2), (2, 5)], [1, 2, 3, 4, 5]
        seen = [counts_fit(counts, ids), lost_numbers(counts, ids), count_logs(counts, ids), nth_log(counts, ids, 1)]
        self.assertEqual(seen, [True, [1, 1], 2, [[2], [4, 5]]])
        counts[1] = (3, 5)
        seen = [counts_fit(counts, ids), lost_numbers(counts, ids), count_logs(counts, ids), nth_log(counts, ids, 0)]
        self.assertEqual(seen, [True, [1, 0], 1, [[2], [3, 4, 5]]])
        ids.remove(4)
        self.assertEqual([counts_fit(counts, ids), count_logs(counts, ids)], [False, 0])
        self.assert_raises_exactly(NoFit, states_by, counts, ids)
        counts.pop()
        self.assertEqual(states_by(counts, ids), {1: "lost", 2: "read", 3: "open", 5: "open"})
        ids.append(5)
        self.assert_raises_exactly(InvalidIds, counts_fit, counts, ids)
        counts.append([0, 2])
        self.assert_raises_exactly(InvalidCounts, counts_fit, counts, ids)

    def test_the_greatest_arguments(self):
        far = [GREATEST - 30 + row for row in FULL]
        for ids in [FULL, far]:
            for counts in [[(15, ids[-1])], [(1, row) for row in ids[2:28:2]][:12], [(0, 0)] * 12,
                           [(0, 0)] * 11 + [(30, ids[-1])]]:
                for function in [counts_fit, lost_numbers, states_by, count_logs]:
                    steps_of(lambda: function(counts, ids), 30000)
                steps_of(lambda: nth_log(counts, ids, count_logs(counts, ids) - 1), 60000)


if __name__ == "__main__":
    unittest.main()
