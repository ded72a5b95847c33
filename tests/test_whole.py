"""The whole program: points [1] to [4], and what functions of different modules say of the same."""

import copy
import inspect
import itertools
import random
import unittest

from lateids import (
    console, counts, errors, exact, histories, live, logs, margins, moments, readers, repair, rounds, schedules, several, texts,
)
from lateids.live import LiveTable
from orders import EXAMPLE, GREATEST, all_polls, drawn_polls, some_orders
from readings import drawn_case, some_cases
from samples import ExactCase
from tables import BEGIN, ROUNDS, Model, drawn_events, some_histories

MODULES = [histories, moments, readers, exact, schedules, margins, logs, several, counts, repair, rounds, live, texts,
           console]


def history_of(order):
    """Return a history with this order, whose ids are at most thirty."""
    return [BEGIN] * max(order, default=0) + [("commit", row) for row in order]


def ranked(order):
    """Return an order of the ids from 1 on that stand like those of an order."""
    return [sorted(order).index(row) + 1 for row in order]


def polled_table(order, polls):
    """Return a live table with the commits of an order, in which a reader polls at these moments."""
    table = LiveTable()
    table.run(*[BEGIN] * len(order))
    for moment in range(len(order) + 1):
        if moment:
            table.commit(order[moment - 1])
        for poll in polls:
            if poll == moment:
                table.poll("a")
    return table


class LossesTest(ExactCase):
    """Points [4], [7], [19], [23] and [30] to [32]."""

    def check(self, order, polls):
        """Check what a plain reader loses by the functions of every module that tells it."""
        many = len(order)
        lost = readers.lost_ids(order, polls)
        dangers = {row: moments.danger_of(order, row) for row in sorted(order)}
        endangered = {row: [poll for poll in polls if dangers[row] and dangers[row][0] <= poll <= dangers[row][1]]
                      for row in dangers}
        self.assertEqual(lost, [row for row in dangers if endangered[row]])
        alone = {row for poll in polls for row in moments.missed_at(order, poll)}
        self.assertEqual(lost, sorted(alone))
        self.assertEqual(lost, sorted({row for poll in polls for row in readers.lost_ids(order, [poll])}))
        steps = polls + [many]
        between = [row for earlier, later in zip(steps, steps[1:])
                   for row in schedules.lost_between(order, earlier, later)]
        self.assertEqual(sorted(between), lost)
        self.assertIs(exact.can_lose(order, lost), True)
        self.assertEqual(readers.lost_ids(order, exact.polls_for(order, lost)), lost)
        found, waited = margins.reaches(order, polls), margins.waits(order, polls)
        self.assertEqual([list(found), list(waited)], [lost, lost])
        for row in lost:
            self.assertEqual(found[row] is None, polls[-1] <= order.index(row))
            if found[row] is not None:
                self.assertEqual(waited[row], len(endangered[row]))
                self.assertEqual(found[row], moments.top_at(order, endangered[row][-1]) - row + 1)
        if polls and polls[-1] == many:
            self.assertEqual(readers.lost_ids(order, polls, overlap=margins.greatest_reach(order)), [])
            self.assertEqual(readers.lost_ids(order, polls, overlap=margins.least_overlap(order, polls, 0)), [])
            self.assertEqual(readers.lost_ids(order, polls, wait=margins.least_wait(order, polls, 0)), [])
        self.assertTrue(set(lost).isdisjoint(moments.safe_ids(order)))

    def check_margins(self, order, polls):
        """Check that an overlap keeps an id from its reach on, and a wait from the number of its polls in danger on."""
        found, waited = margins.reaches(order, polls), margins.waits(order, polls)
        for overlap in {1, 2, 3, 10, GREATEST}:
            kept = [row for row in found if found[row] is None or found[row] > overlap]
            self.assertEqual(readers.lost_ids(order, polls, overlap=overlap), kept)
        for wait in [0, 1, 2, 5, 30]:
            kept = [row for row in waited if waited[row] is None or waited[row] > wait]
            self.assertEqual(readers.lost_ids(order, polls, wait=wait), kept)

    def test_small_orders(self):
        for many in range(5):
            for order in itertools.permutations(range(1, many + 1)):
                for polls in all_polls(many, 3):
                    self.check(list(order), polls)

    def test_orders_of_all_kinds(self):
        source = random.Random(110)
        for order in some_orders()[::2]:
            for polls in drawn_polls(source, order)[::2]:
                self.check(order, polls)
                self.check_margins(order, polls)

    def test_a_schedule_that_loses_nothing(self):
        for order in some_orders()[::3]:
            schedule = schedules.best_schedule(order, GREATEST)
            self.assertEqual(readers.lost_ids(order, schedule), [])


class TablesTest(ExactCase):
    """A reader of a live table beside the readers, the margins and the logs for the order at its end."""

    def test_a_reader_of_a_table(self):
        source = random.Random(111)
        for order in some_orders()[::2] + [EXAMPLE]:
            order = ranked(order)
            for polls in drawn_polls(source, order)[::3]:
                table = polled_table(order, polls)
                self.assertEqual(table.order, order)
                walked = list(readers.walk_polls(order, polls))
                cursor = walked[-1][1] if walked else 0
                self.assertEqual(table.cursor_of("a"), cursor)
                lost = readers.lost_ids(order, polls)
                self.assertEqual(table.lost_of("a"), lost)
                self.assertEqual(table.lost_of("a"), list(margins.reaches(order, polls)))
                self.assertEqual([rows for rows, _ in walked], readers.read(order, polls))
                self.assertEqual(table.poll("b"), sorted(order))

    def test_the_log_of_a_reader(self):
        source = random.Random(112)
        for _ in range(150):
            model = Model()
            events = drawn_events(source, model, source.choice([5, 15, 40]))
            table = LiveTable()
            table.run(*events)
            ids = sorted(table.order)
            own = [model.got[name] for name in sorted(model.got) if len(model.got[name]) <= 8][:4]
            for log in own:
                self.assertTrue(logs.is_log(log) and logs.fits(log, ids))
                self.assertIs(logs.is_order_of(log, ids, table.order), True)
                self.assertEqual(texts.parse_log(texts.format_log(log)), log)
            if own:
                self.assertIsNone(several.conflict(own, ids))
                self.assertGreater(several.count_rows(own, ids), 0)

    def test_the_logs_of_tables_that_run_a_run(self):
        for seed in range(30):
            source = random.Random(seed)
            many = source.randint(1, 4)
            ids = list(range(1, source.randint(1, 12)))
            run = [("poll", reader) for reader in range(many) for _ in range(source.randint(0, 5))]
            run += [("commit", row) for row in ids]
            source.shuffle(run)
            table, found = LiveTable(), [[] for _ in range(many)]
            table.run(*[BEGIN] * len(ids))
            for word, number in run:
                if word == "commit":
                    table.commit(number)
                else:
                    found[number].append(table.poll("abcd"[number]))
            self.assertIs(several.is_run(found, ids, run), True)
            again = several.run_for(found, ids)
            other = LiveTable()
            other.run(*[BEGIN] * len(ids))
            answers = other.run(*[(word, number if word == "commit" else "abcd"[number]) for word, number in again])
            lists = [[] for _ in range(many)]
            for (word, number), answer in zip(again, answers):
                if word == "poll":
                    lists[number].append(answer)
            self.assertEqual(lists, found)
            for reader, log in enumerate(found):
                returned = [row for rows in log for row in rows]
                lost = [row for row in ids if row < max(returned, default=0) and row not in returned]
                self.assertEqual(other.lost_of("abcd"[reader]), lost)

    def test_the_greatest_span_as_an_overlap(self):
        source = random.Random(113)
        for history in some_histories():
            order = histories.order_of(history)
            found = histories.spans(history)
            self.assertEqual(sorted(order), list(found))
            overlap = max(found.values(), default=0) + 1
            self.assertGreaterEqual(overlap, margins.greatest_reach(order))
            for polls in drawn_polls(source, order):
                polls = polls[:29] + [len(order)]
                self.assertEqual(readers.lost_ids(order, polls, overlap=overlap), [])

    def test_no_id_up_to_the_safe_one_is_lost_later(self):
        for history in some_histories()[::3]:
            for position in range(len(history) + 1):
                safe, ahead = histories.safe_at(history, position), histories.order_of(history[:position])
                self.assertTrue(all(row > safe for row in histories.order_of(history)[len(ahead):]))


class RoundsTest(ExactCase):
    """Rounds that are written as histories, beside a live table."""

    def events_of(self, steps, times):
        """Return the events of so many rounds, polls included."""
        events, begun = [], 0
        for step in steps * times:
            if step[0] == "begin":
                begun += 1
                events.append(BEGIN)
            elif step[0] == "poll":
                events.append(("poll", "a"))
            elif begun > step[1]:
                events.append(("commit", begun - step[1]))
        return events

    def test_rounds_beside_a_live_table(self):
        for steps in ROUNDS:
            for times in [1, 2, 3, 7, 20, 40]:
                events = self.events_of(steps, times)
                history = [event for event in events if event[0] != "poll"]
                if len(history) > 60:
                    break
                table = LiveTable()
                answers = table.run(*events)
                lists = [answer for event, answer in zip(events, answers) if event[0] == "poll"]
                self.assertEqual(lists, rounds.written_out(steps, times))
                self.assertEqual([len(table.lost_of("a")), table.cursor_of("a")],
                                 [rounds.far_lost(steps, times), rounds.far_cursor(steps, times)])
                self.assertTrue(histories.is_history(history))
                self.assertEqual(table.order, histories.order_of(history))
                self.assertEqual(texts.parse_history(texts.format_history(history)), history)
                polls, moment = [], 0
                for event in events:
                    moment += event[0] == "commit"
                    if event[0] == "poll":
                        polls.append(moment)
                if len(polls) <= 30 and len(table.order) <= 30:
                    self.assertEqual(readers.read(table.order, polls), lists)
                    self.assertEqual(readers.lost_ids(table.order, polls), table.lost_of("a"))


class LogsTest(ExactCase):
    """Logs of one reader by the functions of all modules that take them."""

    def test_one_log_beside_several(self):
        for log, ids in some_cases():
            if len(log) <= 8:
                self.assertEqual([several.arrows([log], ids), several.conflict([log], ids),
                                  several.count_rows([log], ids)], [[], None, 1])
                run = several.run_for([log], ids)
                self.assertIs(logs.is_order_of(log, ids, [number for word, number in run if word == "commit"]), True)

    def test_each_order_that_leads_to_a_log(self):
        source = random.Random(114)
        for many in range(0, 31, 2):
            log, ids, _ = drawn_case(source, many)
            cursor = max([row for rows in log for row in rows], default=0)
            counted = [(len(rows), max([row for lists in log[:at + 1] for row in lists], default=0)) for at,
                       rows in enumerate(log)]
            self.assertIs(counts.counts_fit(counted, ids), True)
            missing = [row for row in ids if row < cursor and not any(row in rows for rows in log)]
            self.assertEqual(sum(counts.lost_numbers(counted, ids)), len(missing))
            for _ in range(5):
                order = logs.nth_order(log, ids, source.randrange(logs.count_orders(log, ids)))
                self.assertEqual(repair.found_again(log, order, len(order)), missing)
                ranges = repair.ranges_for(log, source.randrange(5))
                self.assertTrue(all(any(first <= row <= last for first, last in ranges) for row in missing))


class ConventionsTest(ExactCase):
    """Points [2] and [3] for all modules together."""

    def test_every_error_of_the_package_is_a_late_error(self):
        for name, value in vars(errors).items():
            if inspect.isclass(value):
                self.assertTrue(issubclass(value, ValueError), name)
                self.assertTrue(value is errors.LateError or value.__bases__ == (errors.LateError,), name)

    def test_no_module_keeps_values_that_change(self):
        for module in MODULES:
            for name, value in vars(module).items():
                if not name.startswith("__") and not callable(value):
                    self.assertIn(type(value), [int, str, tuple, dict], (module, name))

    def test_calls_change_no_module(self):
        before = {module: copy.deepcopy({name: value for name, value in vars(module).items()
                                         if type(value) in (dict, list) and name[0] != "_"})
                  for module in MODULES}
        found = texts.format_history(history_of(EXAMPLE))
        rows = console.Console()
        rows.execute(found)
        self.assertEqual(rows.execute("order"), ",".join(map(str, EXAMPLE)))
        for module in MODULES:
            self.assertEqual({name: vars(module)[name] for name in before[module]}, before[module])

    def test_returned_values_may_be_passed_on(self):
        table = LiveTable.of(texts.parse_history("b b b c2 r1 c3"))
        order = table.order
        self.assertEqual([moments.missed_counts(order), exact.polls_for(order, exact.alone_ids(order))], [[0, 0, 0], []])
        log = readers.read(EXAMPLE, schedules.best_schedule(EXAMPLE, 2))
        ids = sorted(EXAMPLE)
        self.assertEqual(logs.order_number(log, ids, logs.nth_order(log, ids, 5)), 5)
        self.assertIs(repair.is_repair(log, 0, repair.missing_runs(log)), True)
        logs_of_two = [log, readers.read(EXAMPLE, [1, 4, 7])]
        self.assertIs(several.is_run(logs_of_two, ids, several.run_for(logs_of_two, ids)), True)
        for one, other in several.arrows(logs_of_two, ids):
            self.assertIs(several.is_ahead(logs_of_two, ids, one, other), True)


if __name__ == "__main__":
    unittest.main()
