"""Points 60 and 61: the facts and the heart, all Tables tried against all environments of small rounds."""

import itertools
import unittest

from roundpromises.one import (
    Task,
    against,
    earliest,
    good,
    had,
    is_quarrel,
    is_right,
    keeps,
    latest,
    on_top,
    quarrel,
    tightest,
)
from roundpromises.promises import allowed
from roundpromises.rows import rows
from roundpromises.sights import Panel, arrivals_of, environments
from roundpromises.tables import later, sooner
from roundpromises.terms import letter_of
from tests.helpers import Case, all_tables, late, panels, seen_until, times_of

CASES = [("x", (("rings", "out"), ("gap", "a", "out", 1))), ("y", (("silent", "out"),))]
SPANS = ((0, 0), (0, 1), (1, 1), (-1, 0), (-1, 2))
QUIET = ((("silent", "a"),), ("never",))
LOUD = ((("rings", "a"),), ("first", ("start",), 0, 4))


def wishes(inputs, few):
    """Lists of promises, and cases with barred letters, that are tried with each panel."""
    lists = [[]] + [[((), ("first", ("a",), low, high))] for low, high in SPANS]
    lists += [[QUIET], [LOUD], [QUIET, LOUD], [((), ("never",))], [((), ("latest", ("start",), 1, 1))]]
    lists += [[((("gap", "start", "a", 1),), ("first", ("start",), 0, 0)), QUIET]]
    if len(inputs) == 2:
        lists = [
            [],
            [QUIET],
            [((), ("last", ("a", "b"), 0, 1))],
            [((), ("latest", ("a", "b"), 0, 0))],
            [((("gap", "a", "b", 1),), ("never",)), ((("silent", "b"),), ("first", ("a",), 0, 1))],
        ]
    barred = [[], ["x"], ["y"], ["other"], ["x", "y"]]
    every = list(itertools.product(lists, barred))
    return every[::few]


class Facts(Case):
    """Each task is judged by the words of the document alone, over all Tables, and compared."""

    def tried(self, panel, tables, few):
        every = environments(panel)
        arrivals = {environment: arrivals_of(panel, environment) for environment in every}
        answers = [table.answers() for table in tables]
        for promises, barred in wishes(panel.inputs, few):
            task = Task(panel, CASES, promises, barred)
            right = {}
            for environment in every:
                right[environment] = {time for time in times_of(panel.length) if self.allows(task, environment, time)}
            wanted = [
                all(table[arrivals[environment]] in right[environment] for environment in every) for table in answers
            ]
            yield task, every, arrivals, right, wanted

    def allows(self, task, environment, time):
        row, _, slip = environment
        ringing = None if time is None else time + slip
        span, may = allowed(task.promises, task.panel.inputs, row)
        fits = may if ringing is None else span is not None and span[0] <= ringing <= span[1]
        return fits and letter_of(task.cases, {**dict(zip(task.panel.inputs, row)), "out": ringing}) not in task.barred

    def rounds(self):
        for length in (1, 2):
            tables = all_tables(1, length)
            for panel in panels(["a"], length):
                yield from ((tables, *told) for told in self.tried(panel, tables, 1 if length == 1 else 4))
        tables = all_tables(2, 1)
        for panel in panels(["a", "b"], 1, slips=(0, 2))[::7]:
            yield from ((tables, *told) for told in self.tried(panel, tables, 6))

    def test_all(self):
        kept_ones = lost_ones = 0
        for tables, task, every, arrivals, right, wanted in self.rounds():
            size, length = len(task.panel.inputs), task.panel.length
            goods = {row: self.good_ones(row, length, every, arrivals, right) for row in rows(size, length)}
            for row, times in goods.items():
                self.same(good(task, row), times)
            for environment in every:
                for time in times_of(length):
                    self.assertIs(is_right(task, environment, time), time in right[environment])
            kept = [table for table, fits in zip(tables, wanted) if fits]
            self.judge_tables(task, tables, wanted, goods)
            # HEART: some Table keeps it exactly if each row has a good time.
            self.assertEqual(bool(kept), all(goods.values()))
            if kept:
                kept_ones += 1
                self.judge_kept(task, kept, goods)
            else:
                lost_ones += 1
                self.judge_lost(task, tables, goods)
        self.assertGreater(min(kept_ones, lost_ones), 100)

    def good_ones(self, row, length, every, arrivals, right):
        return tuple(
            time
            for time in times_of(length)
            if all(
                time in right[environment]
                for environment in every
                if seen_until(arrivals[environment], time) == seen_until(row, time)
            )
        )

    def judge_tables(self, task, tables, wanted, goods):
        step = 1 if len(tables) < 100 else 25
        for table, fits in list(zip(tables, wanted))[::step]:
            self.assertIs(keeps(task, table), fits)
        for table, fits in zip(tables, wanted):
            # A Table keeps it exactly if all its answers, also those to rows that nothing brings, are good.
            self.assertEqual(all(time in goods[row] for row, time in table.answers().items()), fits)

    def judge_kept(self, task, kept, goods):
        first, last = earliest(task), latest(task)
        self.assertIn(first, kept)
        self.assertIn(last, kept)
        answers = [table.answers() for table in kept]
        for row, times in goods.items():
            had_there = sorted({table[row] for table in answers}, key=late)
            self.same(first.answer(row), had_there[0])
            self.same(first.answer(row), times[0])
            self.same(last.answer(row), had_there[-1])
            self.same(had(task, row), tuple(had_there))
            self.same(had(task, row), tuple(time for time in times if late(time) <= late(last.answer(row))))
            # The answer of the latest: the first good time at which a row that looks alike has its last one.
            ends = [
                time
                for time in times
                if any(
                    seen_until(other, time) == seen_until(row, time) and late(more[-1]) <= late(time)
                    for other, more in goods.items()
                )
            ]
            self.same(last.answer(row), ends[0])
        for table in kept[:: 1 + len(kept) // 20]:
            self.assertTrue(sooner(first, table) == first)
            self.assertTrue(later(last, table) == last)
        self.assertIsNone(quarrel(task))

    def judge_lost(self, task, tables, goods):
        self.assertIsNone(earliest(task))
        self.assertIsNone(latest(task))
        for row in goods:
            self.same(had(task, row), ())
        found = quarrel(task)
        self.assertIs(is_quarrel(task, found), True)
        self.same(list(found[1]), times_of(task.panel.length))
        for table in tables[:: 1 if len(tables) < 100 else 50]:
            environment = against(task, found, table)
            self.assertEqual(environment, found[1][table.answer(found[0])])
            self.assertIs(is_right(task, environment, table.answer(arrivals_of(task.panel, environment))), False)
            self.assertIs(keeps(task, table), False)

    def test_quarrels_in_full(self):
        """Among all pairs of a row and environments there is a quarrel exactly if no Table keeps the task."""
        for panel in panels(["a"], 1, slips=(0, 1)):
            every = environments(panel)
            for promises, barred in wishes(["a"], 7):
                task = Task(panel, CASES, promises, barred)
                found = False
                for row in rows(1, 1):
                    for chosen in itertools.product(every, repeat=3):
                        if is_quarrel(task, (row, dict(zip(times_of(1), chosen)))):
                            found = True
                            wanted = all(
                                seen_until(arrivals_of(panel, environment), time) == seen_until(row, time)
                                and not is_right(task, environment, time)
                                for time, environment in zip(times_of(1), chosen)
                            )
                            self.assertTrue(wanted)
                            break
                self.assertEqual(found, earliest(task) is None)

    def test_on_top_and_tightest(self):
        for length, step in ((1, 1), (2, 3)):
            tables = all_tables(1, length)
            for panel in panels(["a"], length)[::step]:
                for promises, barred in wishes(["a"], 9):
                    task = Task(panel, CASES, promises, barred)
                    kept = [table for table in tables if keeps(task, table)]
                    for condition, which, names in (
                        ((), "first", ("a",)),
                        ((("rings", "a"),), "last", ("start",)),
                        ((("silent", "a"),), "latest", ("a",)),
                    ):
                        self.judge_tightest(task, kept, condition, which, names)

    def judge_tightest(self, task, kept, condition, which, names):
        length = task.panel.length
        does = {}
        for low, high in itertools.combinations_with_replacement(range(-length, length + 1), 2):
            more = (condition, (which, names, low, high))
            alone = Task(task.panel, [], [more], [])
            does[(low, high)] = any(keeps(alone, table) for table in kept)
            self.assertIs(on_top(task, more), does[(low, high)])
        wanted = [
            (low, high)
            for low, high in does
            if does[(low, high)]
            and not any(
                does[(least, most)] and low <= least <= most <= high and (least, most) != (low, high)
                for least, most in does
            )
        ]
        self.same(tightest(task, condition, which, names), sorted(wanted))

    def test_two_inputs_tightest(self):
        for panel in (Panel(["a", "b"], 1, None, 0), Panel(["a", "b"], 1, {"a": (0, 1), "b": (1, 2)}, 1)):
            task = Task(panel, CASES, [QUIET], ["y"])
            tables = [table for table in all_tables(2, 1) if keeps(task, table)]
            for which in ("first", "last", "latest"):
                self.judge_tightest(task, tables, (), which, ("a", "b"))


if __name__ == "__main__":
    unittest.main()
