"""The logs of several readers: points [11] and [37] to [40], and the conventions [2] for them."""

import itertools
import math
import random
import unittest

from lateids.errors import InvalidIds, InvalidLogs, InvalidPoll, NoFit
from lateids.several import arrows, conflict, count_rows, is_ahead, is_conflict, is_run, run_for
from orders import GREATEST
from readings import FULL, WRONG_IDS, WRONG_LOGS, drawn_ids
from samples import NO_INTEGERS, NO_LISTS, STRANGE, Equal, ExactCase, Odd, changed, spoil, steps_of

EXAMPLE_LOGS = [[[1, 3], [4]], [[1], [2, 3, 4]]]
EXAMPLE_RUN = [("commit", 1), ("poll", 1), ("commit", 3), ("poll", 0), ("commit", 2), ("commit", 4), ("poll", 0),
               ("poll", 1)]

WRONG_LISTS = NO_LISTS + [
    [], [[]] * 5, [[[1]]] * 5, [[[]] * 9], [[], [[]] * 9], [[], [[row] for row in range(1, 10)]], ([],), [([],)], [()],
    [[], ()],
    [None], [1], [[1]], [[1, 2], []], [Odd()], [[], Odd()], [Equal()], ["1"], [{}], {1: []},
] + [[log] for log in WRONG_LOGS] + [[[[1]], log] for log in WRONG_LOGS]

NOT_FITTING = [
    ([[[1]]], [], 0), ([[[1]], [[2]]], [1], 1), ([[[1]], [[2]]], [2], 0), ([[], [[]], [[1], [3]], [[4]]], [1], 2),
    ([[], [], [], [[GREATEST]]], FULL, 3), ([[[1]], [[1], []], [[2]]], [1, 3], 2), (EXAMPLE_LOGS, [1, 2, 3], 0),
    (EXAMPLE_LOGS, [1, 3, 4], 1), (EXAMPLE_LOGS, [], 0),
]


def polls_of(logs):
    """Return all polls of some logs."""
    return [(reader, number) for reader, log in enumerate(logs) for number in range(len(log))]


def plain_logs(many, run):
    """Return the logs of so many plain readers behind a run."""
    logs, cursors, visible = [[] for _ in range(many)], [0] * many, set()
    for word, number in run:
        if word == "commit":
            visible.add(number)
        else:
            logs[number].append(sorted(row for row in visible if row > cursors[number]))
            cursors[number] = max([cursors[number]] + logs[number][-1])
    return logs


def plainly_a_run(logs, ids, value):
    """Return whether any value is a run, judged item by item."""
    if type(value) is not list:
        return False
    for item in value:
        if type(item) is not tuple or len(item) != 2 or type(item[0]) is not str or type(item[1]) is not int:
            return False
        if item[0] not in ("commit", "poll") or item[0] == "poll" and not 0 <= item[1] < len(logs):
            return False
    commits = [number for word, number in value if word == "commit"]
    return sorted(commits) == ids and plain_logs(len(logs), value) == logs


def plain_arrows(logs, ids):
    """Return all arrows, from the words of point [37]."""
    lower, upper = [], []
    for reader, log in enumerate(logs):
        cursors = [max([0] + [row for rows in log[:number + 1] for row in rows]) for number in range(len(log))]
        for row in ids:
            returned = [number for number, rows in enumerate(log) if row in rows]
            passed = [number for number, cursor in enumerate(cursors) if cursor > row]
            if returned:
                upper.append((row, (reader, returned[0])))
                if returned[0] > 0:
                    lower.append((row, (reader, returned[0] - 1)))
            elif passed:
                lower.append((row, (reader, passed[0])))
            elif log:
                lower.append((row, (reader, len(log) - 1)))
    found = {(one, other) for row, one in lower for same, other in upper if row == same and one[0] != other[0]}
    return sorted(found)


def plainly_a_conflict(logs, ids, value):
    """Return whether any value is a conflict, judged pair by pair."""
    if type(value) is not list or len(value) < 2:
        return False
    polls, pairs = polls_of(logs), plain_arrows(logs, ids)
    for at, poll in enumerate(value):
        if type(poll) is not tuple or len(poll) != 2 or [type(number) for number in poll] != [int, int]:
            return False
        if poll not in polls or poll in value[:at]:
            return False
    for one, other in zip(value, value[1:] + value[:1]):
        if (one, other) not in pairs and not (one[0] == other[0] and one[1] < other[1]):
            return False
    return True


def plain_rows(logs, ids):
    """Return all rows, found poll by poll: no poll may follow one that its arrows put behind it."""
    polls, pairs = polls_of(logs), plain_arrows(logs, ids)
    pairs += [(one, other) for one in polls for other in polls if one[0] == other[0] and one[1] < other[1]]
    rows = [[]]
    for _ in polls:
        rows = [row + [poll] for row in rows for poll in polls
                if poll not in row and all(one in row for one, other in pairs if other == poll)]
    return rows


def drawn_run(source, many, longest, ids):
    """Return a run of so many readers with at most so many polls each; a source of random numbers chooses it."""
    run = [("poll", reader) for reader in range(many) for _ in range(source.randint(0, longest))]
    run += [("commit", row) for row in ids]
    source.shuffle(run)
    if source.random() < 0.3:
        # Commits that are nearly ascending, so that the readers lose little.
        places = [at for at, event in enumerate(run) if event[0] == "commit"]
        for at, row in zip(places, ids):
            run[at] = ("commit", row)
    return run


def parted_anew(source, logs):
    """Return logs whose lists are parted in another way, or lack some ids."""
    found = []
    for log in logs:
        rows = [row for lists in log for row in lists if source.random() < 0.95]
        if source.random() < 0.6:
            found.append([[row for row in lists if row in rows] for lists in log])
        else:
            cuts = sorted(source.randint(0, len(rows)) for _ in range(max(0, len(log) - 1)))
            cuts = [0] + cuts + [len(rows)] if log else []
            found.append([rows[low:high] for low, high in zip(cuts, cuts[1:])])
    return found


def some_logs():
    """Return tuples of logs and ids: of drawn runs, and those parted anew."""
    source = random.Random(40)
    cases = [
        (EXAMPLE_LOGS, [1, 2, 3, 4]), ([[[2], [3]], [[3]]], [2, 3]), ([[[2], [3]], [[2, 3]]], [2, 3]), ([[]], []),
        ([[], [], [], []], FULL),
        ([[[]] * 8] * 4, FULL), ([[[]]], [1]), ([[FULL], [FULL]], FULL), ([[[1]], [[2]]], [1, 2]),
        ([[[1, 3]], [[2, 4]]], [1, 2, 3, 4]),
        ([[[1]], [[2]], [[3]], [[4]]], [1, 2, 3, 4]), ([[[2]], [[1]]], [1, 2]),
        ([[[GREATEST]], [[], [1, GREATEST]]], [1, GREATEST]),
        ([[[1], [2]], [[1], [2]], [], [[]]], [1, 2, 3]),
    ]
    for many in range(1, 5):
        for _ in range(25):
            ids = drawn_ids(source, source.choice([1, 3, 5, 10, 30]))
            logs = plain_logs(many, drawn_run(source, many, source.choice([1, 2, 3, 8]), ids))
            others = plain_logs(many, drawn_run(source, many, 3, ids))
            cases += [(logs, ids), (parted_anew(source, logs), ids), ((logs + others)[1:many + 1], ids)]
    return cases


CASES = some_logs()


class ExamplesTest(ExactCase):

    def test_arrows(self):
        self.assertEqual(arrows(EXAMPLE_LOGS, [1, 2, 3, 4]), [((0, 0), (1, 1)), ((1, 0), (0, 0)), ((1, 0), (0, 1))])

    def test_conflicts(self):
        logs = [[[2], [3]], [[3]]]
        found = conflict(logs, [2, 3])
        self.assertEqual(
            [is_conflict(logs, [2, 3], found), is_conflict(logs, [2, 3], [(0, 0), (1, 0)]),
             conflict([[[2], [3]], [[2, 3]]], [2, 3])],
            [True, True, None])

    def test_runs(self):
        logs, ids, run = EXAMPLE_LOGS, [1, 2, 3, 4], EXAMPLE_RUN
        self.assertEqual([is_run(logs, ids, run), is_run(logs, ids, run_for(logs, ids)), is_run(logs, ids, run[1:])],
                         [True, True, False])

    def test_rows(self):
        logs, ids = EXAMPLE_LOGS, [1, 2, 3, 4]
        self.assertEqual([count_rows(logs, ids), is_ahead(logs, ids, (0, 0), (1, 1)),
                          is_ahead(logs, ids, (0, 1), (1, 1))],
                         [2, True, False])


class SeveralCase(ExactCase):

    def check_conflict(self, logs, ids, expected):
        """Check that there is a conflict and no run, or the reverse, and that both are right."""
        found, run = conflict(logs, ids), run_for(logs, ids)
        self.assertEqual([found is not None, run is None], [expected, expected], (logs, ids))
        if expected:
            self.assertTrue(plainly_a_conflict(logs, ids, found), (logs, ids, found))
            self.assertIs(is_conflict(logs, ids, found), True)
        else:
            self.assertTrue(plainly_a_run(logs, ids, run), (logs, ids, run))
            self.assertIs(is_run(logs, ids, run), True)

    def check_rows(self, logs, ids, rows):
        """Check what is told of rows, where these are all of them."""
        self.assertEqual(count_rows(logs, ids), len(rows), (logs, ids))
        for one, other in itertools.permutations(polls_of(logs), 2):
            ahead = all(row.index(one) < row.index(other) for row in rows)
            self.assertIs(is_ahead(logs, ids, one, other), ahead, (logs, ids, one, other))


class AllRunsTest(SeveralCase):
    """Beside all runs of so many polls and so many ids, and beside all logs that no run has."""

    def check(self, counts, ids, most=10 ** 6):
        events = [("poll", reader) for reader, count in enumerate(counts) for _ in range(count)]
        found = {}
        for run in distinct_orders(events + [("commit", row) for row in ids]):
            logs = plain_logs(len(counts), run)
            numbers, row = [0] * len(counts), []
            for word, reader in run:
                if word == "poll":
                    row.append((reader, numbers[reader]))
                    numbers[reader] += 1
            found.setdefault(repr(logs), (logs, set(), run))[1].add(tuple(row))
        for logs, rows, run in found.values():
            self.assertIs(is_run(logs, ids, run), True)
            self.check_conflict(logs, ids, False)
            self.check_rows(logs, ids, sorted(rows))
        own = [{repr(logs[reader]): logs[reader] for logs, _, _ in found.values()}.values()
               for reader in range(len(counts))]
        others = [list(logs) for logs in itertools.product(*own) if repr(list(logs)) not in found]
        for logs in others[:most]:
            self.check_conflict(logs, ids, True)
            self.check_rows(logs, ids, [])

    def test_one_reader(self):
        for count in range(4):
            self.check([count], [1, 2, 5])

    def test_two_readers(self):
        self.check([0, 2], [1, 2, 3])
        self.check([1, 1], [1, 2, 3, 4])
        self.check([2, 2], [1, 2, 3])
        self.check([1, 3], [2, 4, GREATEST])
        self.check([3, 3], [1, 2])

    def test_three_and_four_readers(self):
        self.check([1, 1, 1], [1, 2, 3])
        self.check([2, 0, 1], [1, 2, 3])
        self.check([2, 2, 2], [3, 4])
        self.check([1, 1, 1, 1], [1, 2, 3], 400)


def distinct_orders(events):
    """Return all orders of some events, those of equal events once."""
    if not events:
        return [[]]
    found = []
    for event in sorted(set(events)):
        rest = list(events)
        rest.remove(event)
        found += [[event] + order for order in distinct_orders(rest)]
    return found


class DrawnLogsTest(SeveralCase):

    def test_arrows(self):
        for logs, ids in CASES:
            self.assertEqual(arrows(logs, ids), plain_arrows(logs, ids), (logs, ids))

    def test_logs_of_a_drawn_run(self):
        source = random.Random(41)
        for many in range(1, 5):
            for longest in [1, 3, 8]:
                for _ in range(12):
                    ids = drawn_ids(source, source.choice([0, 2, 6, 12, 30]))
                    run = drawn_run(source, many, longest, ids)
                    logs = plain_logs(many, run)
                    self.assertIs(is_run(logs, ids, run), True)
                    self.check_conflict(logs, ids, False)
                    self.assertGreater(count_rows(logs, ids), 0)
                    places, numbers = {}, [0] * many
                    for word, reader in run:
                        if word == "poll":
                            places[(reader, numbers[reader])] = len(places)
                            numbers[reader] += 1
                    for one, other in itertools.permutations(places, 2):
                        if is_ahead(logs, ids, one, other):
                            self.assertLess(places[one], places[other])

    def test_conflicts_and_runs(self):
        impossible = 0
        for logs, ids in CASES:
            found = conflict(logs, ids)
            self.check_conflict(logs, ids, found is not None)
            self.assertEqual(count_rows(logs, ids) == 0, found is not None)
            impossible += found is not None
        self.assertGreater(impossible, 40)

    def test_all_rows_of_up_to_six_polls(self):
        source = random.Random(42)
        for _ in range(150):
            many = source.randint(1, 4)
            ids = drawn_ids(source, source.randint(0, 8))
            logs = plain_logs(many, drawn_run(source, many, [6, 3, 2, 1][many - 1], ids))
            if source.random() < 0.5:
                logs = parted_anew(source, logs)
            self.check_rows(logs, ids, plain_rows(logs, ids))

    def test_counts_of_long_rows(self):
        for logs, ids in CASES:
            pairs, counts = plain_arrows(logs, ids), {}
            for placed in itertools.product(*[range(len(log) + 1) for log in logs]):
                # A row can end with the last placed poll of a reader if no placed one is behind it.
                counts[placed] = 0 if any(placed) else 1
                for reader, number in enumerate(placed):
                    last = (reader, number - 1)
                    if number and not any(one == last and placed[other[0]] > other[1] for one, other in pairs):
                        shorter = placed[:reader] + (number - 1,) + placed[reader + 1:]
                        counts[placed] += counts[shorter]
            self.assertEqual(count_rows(logs, ids), counts[tuple(len(log) for log in logs)], (logs, ids))

    def test_known_numbers(self):
        self.assertEqual([count_rows([[]], []), count_rows([[], []], FULL), run_for([[]], []), conflict([[]], [1])],
                         [1, 1, [], None])
        self.assertEqual(count_rows([[[]] * 8] * 4, FULL), math.factorial(32) // math.factorial(8) ** 4)
        self.assertEqual(count_rows([[[]] * 8] * 4, []), math.factorial(32) // math.factorial(8) ** 4)
        self.assertEqual(count_rows([[[]] * 8, [], [[]]], [1]), 9)
        self.assertEqual(count_rows([[[]], [[1]], [[]]], [1]), 2)
        self.assertEqual([arrows([[[1]], [[2]]], [1, 2]), arrows([[[1]], [[]]], [1])],
                         [[((0, 0), (1, 0)), ((1, 0), (0, 0))], [((1, 0), (0, 0))]])
        self.assertEqual([arrows([[[1], [2]]], [1, 2]), arrows([[], [[1]]], [1]), arrows([[[1]], [[1]]], [1])],
                         [[], [], []])
        self.assertEqual(arrows([[[2]], [[1]]], [1, 2]), [((0, 0), (1, 0)), ((1, 0), (0, 0))])


class JudgesTest(ExactCase):
    """is_conflict and is_run judge any value."""

    def test_any_value_is_no_conflict(self):
        for logs, ids in CASES[:60]:
            for value in NO_LISTS + [[value] for value in STRANGE] + [[(0, 0), value] for value in STRANGE] + [
                    [], [(0, 0)], [(0, 0)] * 2, [(0, 0)] * 400, [Odd()] * 400, ((0, 0), (1, 0)), [[0, 0], [1, 0]],
                    [(0, 0, 0), (1, 0, 0)]]:
                self.assertIs(is_conflict(logs, ids, value), plainly_a_conflict(logs, ids, value), (logs, value))

    def test_any_value_is_no_run(self):
        for logs, ids in CASES[:60]:
            for value in NO_LISTS + [[value] for value in STRANGE] + [[("poll", 0), value] for value in STRANGE] + [
                    [], [("poll", 0)] * 400, [("commit", 1)] * 400, [Odd()] * 400, [["poll", 0]], [("poll",)],
                    [("begin", 1)],
                    [("poll", True)], [("poll", 1.0)], [("poll", -1)], [("poll", 4)], [("commit", Odd())], [(Odd(), 1)],
                    [("poll", "a")]]:
                self.assertIs(is_run(logs, ids, value), plainly_a_run(logs, ids, value), (logs, value))

    def test_conflicts_with_one_change(self):
        source, right, wrong = random.Random(43), 0, 0
        for logs, ids in CASES:
            found = conflict(logs, ids)
            if found is None:
                polls = polls_of(logs)
                values = [source.sample(polls, source.randint(1, len(polls))) for _ in range(20)] if polls else []
            else:
                turned = [found[at:] + found[:at] for at in range(len(found))]
                values = turned + [found[::-1], found + found, found[:-1]] + [changed(source, found) for _ in range(60)]
                for one in turned:
                    self.assertIs(is_conflict(logs, ids, one), True)
            for value in values:
                expected = plainly_a_conflict(logs, ids, value)
                self.assertIs(is_conflict(logs, ids, value), expected, (logs, ids, value))
                right, wrong = right + expected, wrong + (not expected)
        self.assertTrue(right > 100 and wrong > 500, (right, wrong))

    def test_a_conflict_may_leave_out_polls_of_a_reader(self):
        logs, ids = [[[2], [], [], [3]], [[3]]], [2, 3]
        self.assertEqual(arrows(logs, ids), [((0, 2), (1, 0)), ((1, 0), (0, 0))])
        for value in [[(0, 0), (0, 1), (0, 2), (1, 0)], [(0, 0), (0, 2), (1, 0)], [(0, 2), (1, 0), (0, 0), (0, 1)]]:
            self.assertIs(is_conflict(logs, ids, value), True)
        for value in [[(0, 0), (0, 1), (1, 0)], [(0, 0), (0, 3), (1, 0)], [(0, 0), (1, 0)], [(0, 2), (0, 0)],
                      [(0, 0), (0, 1)],
                      [(0, 1), (0, 0), (0, 2), (1, 0)], [(1, 0), (0, 2), (0, 0)]]:
            self.assertIs(is_conflict(logs, ids, value), False)

    def test_runs_with_one_change(self):
        source, right, wrong = random.Random(44), 0, 0
        for logs, ids in CASES:
            run = run_for(logs, ids)
            for _ in range(30):
                value = changed(source, run or [("commit", row) for row in ids])
                expected = plainly_a_run(logs, ids, value)
                self.assertIs(is_run(logs, ids, value), expected, (logs, ids, value))
                right, wrong = right + expected, wrong + (not expected)
        self.assertTrue(right > 100 and wrong > 500, (right, wrong))


class ErrorsTest(ExactCase):

    def all_calls(self, logs, ids):
        calls = [(function, logs, ids) for function in [arrows, conflict, run_for, count_rows]]
        for value in [None, 0, [], (0, 0), "1", Odd()]:
            calls += [(is_conflict, logs, ids, value), (is_run, logs, ids, value), (is_ahead, logs, ids, value, value)]
        return calls

    def test_wrong_logs_come_first(self):
        for logs in WRONG_LISTS:
            for ids in [[], [1], FULL, None, [2, 1], Odd()]:
                for call in self.all_calls(logs, ids):
                    self.assert_raises_exactly(InvalidLogs, *call)

    def test_wrong_ids_come_next(self):
        for ids in WRONG_IDS:
            for logs in [[[]], [[[]] * 8] * 4, EXAMPLE_LOGS]:
                for call in self.all_calls(logs, ids):
                    self.assert_raises_exactly(InvalidIds, *call)

    def test_logs_that_do_not_fit(self):
        for logs, ids, reader in NOT_FITTING:
            for call in self.all_calls(logs, ids):
                found = self.assert_raises_exactly(NoFit, *call)
                self.assertEqual(vars(found), {"reader": reader})
                self.assertIs(type(found.reader), int)

    def test_wrong_polls(self):
        cases = [(EXAMPLE_LOGS, [1, 2, 3, 4]), ([[[2], [3]], [[3]]], [2, 3]), ([[[]]], []), ([[[1]], [], [[]]], [1])]
        for logs, ids in cases:
            wrong = NO_INTEGERS + NO_LISTS + [
                0, 1, (0,), (0, 0, 0), [0, 0], (0, -1), (-1, 0), (len(logs), 0), (0, len(logs[0])), (1, 8), (0, 8),
                (0, GREATEST),
                (False, 0), (0, False), (0, None), (None, 0), (0.0, 0), (0, 0.0), ("0", 0), (0, "0"), ((0, 0), 0),
                (0, (0,)),
                (Odd(), 0), (0, Odd()), (Equal(), 0), (0, Equal()), Odd(), Equal(), "00", {0: 0},
            ]
            for poll in wrong:
                for other in [(0, 0), None, poll, Odd()]:
                    self.assert_raises_exactly(InvalidPoll, is_ahead, logs, ids, poll, other)
                self.assert_raises_exactly(InvalidPoll, is_ahead, logs, ids, (0, 0), poll)
            for poll in polls_of(logs):
                self.assert_raises_exactly(InvalidPoll, is_ahead, logs, ids, poll, poll)
        self.assert_raises_exactly(InvalidPoll, is_ahead, [[], []], [1], (0, 0), (1, 0))

    def test_right_arguments_raise_nothing(self):
        for logs, ids in CASES:
            self.assertIs(type(arrows(logs, ids)), list)
            self.assertIs(type(count_rows(logs, ids)), int)
            for value in STRANGE:
                self.assertIs(type(is_conflict(logs, ids, value)), bool)
                self.assertIs(type(is_run(logs, ids, value)), bool)


class ConventionsTest(ExactCase):

    def test_results_are_new_and_arguments_stay(self):
        for logs, ids in CASES[::2]:
            for function in [arrows, conflict, run_for, count_rows]:
                self.assert_unchanged(function, logs, ids)
            self.assert_unchanged(is_conflict, logs, ids, conflict(logs, ids))
            self.assert_unchanged(is_run, logs, ids, run_for(logs, ids))
            for one, other in list(itertools.permutations(polls_of(logs), 2))[:10]:
                self.assert_unchanged(is_ahead, logs, ids, one, other)

    def test_kinds_of_results(self):
        for logs, ids in CASES:
            for one, other in arrows(logs, ids):
                self.assertEqual([type(one), type(other), len(one), len(other)], [tuple, tuple, 2, 2])
            found = arrows(logs, ids)
            self.assertEqual(found, sorted(set(found)))
            for item in (conflict(logs, ids) or []) + (run_for(logs, ids) or []):
                self.assertEqual([type(item), len(item)], [tuple, 2])

    def test_changed_arguments_are_read_anew(self):
        logs, ids = [[[2], [3]], [[2, 3]]], [2, 3]
        seen = [arrows(logs, ids), conflict(logs, ids), count_rows(logs, ids), is_ahead(logs, ids, (0, 0), (1, 0))]
        self.assertEqual(seen, [[((0, 0), (1, 0))], None, 2, True])
        run = run_for(logs, ids)
        self.assertIs(is_run(logs, ids, run), True)
        logs[1][0].remove(2)
        self.assertEqual([run_for(logs, ids), count_rows(logs, ids), is_run(logs, ids, run)], [None, 0, False])
        found = conflict(logs, ids)
        self.assertIs(is_conflict(logs, ids, found), True)
        logs[1][0].insert(0, 2)
        self.assertEqual([is_conflict(logs, ids, found), is_run(logs, ids, run)], [False, True])
        run.pop()
        self.assertIs(is_run(logs, ids, run), False)
        ids.append(4)
        self.assertEqual(arrows(logs, ids), [((0, 0), (1, 0))])
        logs[0][1].append(5)
        self.assertEqual(self.assert_raises_exactly(NoFit, arrows, logs, ids).reader, 0)
        ids.reverse()
        self.assert_raises_exactly(InvalidIds, arrows, logs, ids)
        logs.extend([[], [], []])
        self.assert_raises_exactly(InvalidLogs, arrows, logs, ids)

    def test_equal_arguments_give_equal_results(self):
        for logs, ids in CASES:
            same = [[list(rows) for rows in log] for log in logs]
            before = [conflict(logs, ids), run_for(logs, ids)]
            spoil(conflict(logs, ids))
            self.assertEqual([conflict(same, list(ids)), run_for(same, list(ids))], before)

    def test_the_greatest_arguments(self):
        source = random.Random(45)
        cases = [([[[]] * 8] * 4, FULL), ([[[]] * 8] * 4, [])]
        far = [GREATEST - 30 + row for row in FULL]
        for ids in [FULL, far]:
            run = [("poll", reader) for reader in range(4) for _ in range(8)] + [("commit", row) for row in ids]
            source.shuffle(run)
            logs = plain_logs(4, run)
            cases += [(logs, ids), (parted_anew(source, logs), ids)]
        for logs, ids in cases:
            run = run_for(logs, ids)
            steps_of(lambda: arrows(logs, ids), 200000)
            steps_of(lambda: conflict(logs, ids), 200000)
            steps_of(lambda: run_for(logs, ids), 200000)
            steps_of(lambda: is_run(logs, ids, run), 200000)
            steps_of(lambda: is_conflict(logs, ids, polls_of(logs)), 200000)
            steps_of(lambda: is_ahead(logs, ids, (0, 0), (3, 7)), 200000)
            steps_of(lambda: count_rows(logs, ids), 3000000)


if __name__ == "__main__":
    unittest.main()
