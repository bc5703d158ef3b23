"""Points 60 and 61: one round, by hand: the example, the edges, the errors."""

import itertools
import unittest

from roundpromises.errors import (
    BadCondition,
    BadEnvironment,
    BadMoment,
    BadPromise,
    BadPromises,
    BadQuarrel,
    BadRow,
    BadTable,
    BadTask,
    BadWindow,
    OtherTables,
    TooMany,
)
from roundpromises.one import (
    Task,
    against,
    earliest,
    good,
    had,
    is_quarrel,
    is_right,
    keeps,
    latest,
    on_top,
    quarrel,
    tightest,
)
from roundpromises.rows import rows
from roundpromises.sights import Panel, environments
from roundpromises.tables import Table, constant, later, sooner
from tests.helpers import JUNK, Case, junk_but, times_of

NEVER = ((), ("never",))
FOLLOW = ((), ("first", ("b",), 0, 1))


def panel_of(delay, slip=0, length=2):
    return Panel(["b"], length, {"b": (delay, delay)}, slip)


class Example(Case):
    """The example of point 61, word for word."""

    def test_heard_1_late(self):
        task = Task(panel_of(1), [], [FOLLOW], [])
        for row, times, early, late in (
            ((None,), (2,), 2, 2),
            ((1,), (1,), 1, 1),
            ((2,), (2,), 2, 2),
            ((0,), (0, 1, 2, None), 0, None),
        ):
            self.same(good(task, row), times)
            self.same(earliest(task).answer(row), early)
            self.same(latest(task).answer(row), late)
        self.same(quarrel(task), None)

    def test_heard_2_late(self):
        task = Task(panel_of(2), [], [FOLLOW], [])
        told = ((2,), {0: ((1,), (2,), 0), 1: ((2,), (2,), 0), 2: ((0,), (2,), 0), None: ((0,), (2,), 0)})
        self.assertIs(is_quarrel(task, told), True)
        self.assertIs(is_quarrel(task, quarrel(task)), True)
        self.assertIsNone(earliest(task))
        self.assertIsNone(latest(task))
        self.same(had(task, (2,)), ())
        self.same(had(task, (0,)), ())
        for moment in times_of(2):
            self.same(against(task, told, constant(1, 2, moment)), told[1][moment])


class Tasks(Case):
    cases = [("x", (("rings", "out"),)), ("y", (("silent", "b"),))]

    def test_attributes(self):
        panel = panel_of(1)
        task = Task(panel, self.cases, [FOLLOW, NEVER], ["y", "other"])
        self.assertTrue(task.panel == panel)
        self.same((task.cases, task.promises, task.barred), (tuple(self.cases), (FOLLOW, NEVER), ("other", "y")))
        task = Task(panel, (), (), ())
        self.same((task.cases, task.promises, task.barred), ((), (), ()))

    def test_equality(self):
        task = Task(panel_of(1), self.cases, [FOLLOW], ["y", "x"])
        self.assertTrue(task == Task(panel_of(1), tuple(self.cases), (FOLLOW,), ("x", "y")))
        for other in (
            Task(panel_of(2), self.cases, [FOLLOW], ["y", "x"]),
            Task(panel_of(1), self.cases, [], ["y", "x"]),
            Task(panel_of(1), self.cases[::-1], [FOLLOW], ["y", "x"]),
            Task(panel_of(1), self.cases, [FOLLOW], ["y"]),
        ):
            self.assertTrue(task != other)

    def test_refused(self):
        panel = panel_of(1)
        for thing in (None, [], "panel", ("b",), constant(1, 2, 0)):
            self.refused(BadTask, Task, thing, None, None, None, part="panel")
        for cases in (
            None,
            {},
            [("x", (("rings", "a"),))],
            [("other", ())],
            [("x", ()), ("x", ())],
            [["x", ()]],
            [("x", ()), ("y", ()), ("z", ()), ("u", ())],
            [("x", (("rings", "start"),))],
        ):
            self.refused(BadTask, Task, panel, cases, None, None, part="cases")
        for promises in (
            None,
            {},
            [NEVER] * 7,
            [((), ("first", ("a",), 0, 1))],
            [((("rings", "out"),), ("never",))],
            [None],
            [list(NEVER)],
        ):
            self.refused(BadTask, Task, panel, self.cases, promises, None, part="promises")
        for barred in (None, {}, "x", ["z"], ["x", "x"], [1], [["x"]], ["out"], ["x", None], {"x": 1}, ("x", "y", "x")):
            self.refused(BadTask, Task, panel, self.cases, [], barred, part="barred")

    def test_too_many_environments(self):
        most = Panel(["a", "b", "c"], 8, None, 1)
        task = Task(most, [], [((), ("first", ("a", "b", "c"), 0, 1))], [])
        self.same(good(task, (3, None, 4)), (3,))
        self.same(earliest(task).answer((3, None, 8)), 3)
        more = Panel(["a", "b", "c"], 8, None, 2)
        self.refused(TooMany, Task, more, [], [], [], most=2000)
        self.refused(BadTask, Task, more, None, [], [], part="cases")
        self.refused(BadTask, Task, more, [], None, [], part="promises")
        self.refused(BadTask, Task, more, [], [], ["x"], part="barred")

    def test_what_is_passed_may_change(self):
        cases, promises, barred = list(self.cases), [FOLLOW], ["x"]
        task = Task(panel_of(1), cases, promises, barred)
        wanted = Task(panel_of(1), self.cases, [FOLLOW], ["x"])
        cases.clear()
        promises.append(NEVER)
        barred.append("y")
        self.assertTrue(task == wanted)
        for row in rows(1, 2):
            self.same(good(task, row), good(wanted, row))


class Right(Case):
    def test_slip_makes_late(self):
        task = Task(panel_of(0, slip=2), [], [((), ("first", ("b",), 1, 2))], [])
        for time, slip, moment in itertools.product((0, 1, 2), (0, 1, 2), times_of(2)):
            wanted = moment is not None and time + 1 <= moment + slip <= time + 2
            self.assertIs(is_right(task, ((time,), (0,), slip), moment), wanted)
        for slip, moment in itertools.product((0, 1, 2), times_of(2)):
            self.assertIs(is_right(task, ((None,), (0,), slip), moment), True)

    def test_at_the_end_of_the_longest_round(self):
        task = Task(
            Panel(["b"], 8, None, 2),
            [("x", (("gap", "start", "out", 8), ("gap", "b", "out", 2)))],
            [((), ("first", ("b",), 0, 2))],
            [],
        )
        self.same(good(task, (8,)), (8,))
        self.assertIs(is_right(task, ((8,), (0,), 2), 8), True)
        barred = Task(task.panel, task.cases, task.promises, ["x"])
        self.same(good(barred, (8,)), ())
        self.assertIs(is_right(barred, ((8,), (0,), 2), 8), False)
        self.assertIs(is_right(barred, ((8,), (0,), 1), 8), True)
        self.assertIs(is_right(Task(task.panel, [], [((), ("first", ("b",), 3, 8))], []), ((8,), (0,), 2), 8), False)

    def test_barred_letters(self):
        cases = [("x", (("rings", "out"),)), ("y", (("silent", "b"),))]
        panel = Panel(["b"], 1, None, 1)
        for barred, right in (
            (["x"], lambda time, moment: moment is None),
            (["y"], lambda time, moment: moment is not None or time is not None),
            (["other"], lambda time, moment: moment is not None or time is None),
            (["x", "y"], lambda time, moment: moment is None and time is not None),
            (["other", "x", "y"], lambda time, moment: False),
            ([], lambda time, moment: True),
        ):
            task = Task(panel, cases, [], barred)
            for environment in environments(panel):
                for moment in times_of(1):
                    self.assertIs(is_right(task, environment, moment), right(environment[0][0], moment))

    def test_refused(self):
        task = Task(panel_of(1), [], [FOLLOW], [])
        for thing in JUNK:
            self.refused(BadTask, is_right, thing, None, None, part=None)
            self.refused(BadTask, good, thing, None, part=None)
            self.refused(BadTask, keeps, thing, None, part=None)
            self.refused(BadTask, earliest, thing, part=None)
            self.refused(BadTask, latest, thing, part=None)
            self.refused(BadTask, had, thing, None, part=None)
            self.refused(BadTask, quarrel, thing, part=None)
            self.refused(BadTask, is_quarrel, thing, None, part=None)
            self.refused(BadTask, against, thing, None, None, part=None)
            self.refused(BadTask, on_top, thing, None, part=None)
            self.refused(BadTask, tightest, thing, None, None, None, part=None)
        for thing in JUNK + (((0,), (0,), 0), ((0,), (1,), False), ((3,), (1,), 0), [(0,), (1,), 0]):
            self.refused(BadEnvironment, is_right, task, thing, 9)
        for moment in junk_but(None, 0, 1):
            self.refused(BadMoment, is_right, task, ((0,), (1,), 0), moment)
        for row in junk_but((1,)) + [(3,), (0, 0), [0]]:
            self.refused(BadRow, good, task, row)
            self.refused(BadRow, had, task, row)
            self.refused(BadRow, had, Task(panel_of(2), [], [FOLLOW], []), row)
        for thing in JUNK:
            self.refused(BadTable, keeps, task, thing, part=None)
        for table in (constant(1, 3, 0), constant(2, 2, 0), constant(1, 1, 0)):
            self.refused(OtherTables, keeps, task, table)


class Quarrels(Case):
    task = Task(panel_of(2), [], [FOLLOW], [])
    told = {0: ((1,), (2,), 0), 1: ((2,), (2,), 0), 2: ((0,), (2,), 0), None: ((0,), (2,), 0)}

    def test_judged(self):
        self.assertIs(is_quarrel(self.task, ((2,), self.told)), True)
        self.assertIs(is_quarrel(self.task, ((2,), dict(reversed(self.told.items())))), True)
        for thing in JUNK + (
            [(2,), self.told],
            ((2,), self.told, 0),
            ((2,), list(self.told.items())),
            ([2], self.told),
            ((3,), self.told),
            ((2, 2), self.told),
            (2, self.told),
            (None, self.told),
            ((2,), {}),
            ((2,), {**self.told, 3: ((0,), (2,), 0)}),
            ((2,), {time: self.told[time] for time in (0, 1, 2)}),
            ((2,), {0: self.told[0], True: self.told[1], 2: self.told[2], None: self.told[None]}),
            ((2,), {False: self.told[0], 1: self.told[1], 2: self.told[2], None: self.told[None]}),
            ((2,), {0: self.told[0], 1: self.told[1], 2: self.told[2], "x": self.told[None]}),
            # right there after all
            ((2,), {**self.told, 1: ((0,), (2,), 0)}),
            # arrivals that look different until the time
            ((2,), {**self.told, None: ((1,), (2,), 0)}),
            ((2,), {**self.told, 2: ((2,), (2,), 0)}),
            ((0,), self.told),
            # no environments
            ((2,), {**self.told, 0: ((1,), (1,), 0)}),
            ((2,), {**self.told, 0: ((1,), (2,), 1)}),
            ((2,), {**self.told, 0: [(1,), (2,), 0]}),
            ((2,), {**self.told, 0: ((True,), (2,), 0)}),
            ((2,), {**self.told, 0: ((1,), (2,), False)}),
            ((2,), {**self.told, 0: None}),
            ((2,), {**self.told, 0: 0}),
        ):
            self.assertIs(is_quarrel(self.task, thing), False, thing)
        self.assertIs(is_quarrel(Task(panel_of(1), [], [FOLLOW], []), ((2,), self.told)), False)

    def test_looks_alike_only_until_the_time(self):
        """At 0 nothing is heard yet in (1,) with the delay 2, nor in the arrivals (2,): they look alike there."""
        changed = {**self.told, 0: ((2,), (2,), 0), 1: ((2,), (2,), 0)}
        self.assertIs(is_quarrel(self.task, ((2,), changed)), True)

    def test_new_at_every_depth(self):
        found = quarrel(self.task)
        wanted = quarrel(self.task)
        self.same(list(found[1]), times_of(2))
        found[1].clear()
        self.same(quarrel(self.task), wanted)

    def test_against_refuses(self):
        table = constant(1, 2, 0)
        for thing in JUNK + (((2,), {}), ((2,), {**self.told, 1: ((0,), (2,), 0)})):
            self.refused(BadQuarrel, against, self.task, thing, None)
        for thing in JUNK:
            self.refused(BadTable, against, self.task, ((2,), self.told), thing, part=None)
        for other in (constant(1, 3, 0), constant(2, 2, 0)):
            self.refused(OtherTables, against, self.task, ((2,), self.told), other)
        self.refused(BadQuarrel, against, Task(panel_of(1), [], [FOLLOW], []), ((2,), self.told), table)


class OnTop(Case):
    def test_by_hand(self):
        task = Task(panel_of(1), [], [FOLLOW], [])
        self.assertIs(on_top(task, ((), ("first", ("b",), 1, 8))), False)
        self.assertIs(on_top(task, ((("gap", "b", "start", -1),), ("first", ("b",), 1, 8))), True)
        self.assertIs(on_top(task, ((("silent", "b"),), ("never",))), False)
        self.assertIs(on_top(Task(panel_of(0), [], [FOLLOW], []), ((("silent", "b"),), ("never",))), True)
        self.assertIs(on_top(Task(panel_of(2), [], [FOLLOW], []), FOLLOW), False)
        self.assertIs(on_top(Task(panel_of(1), [], [FOLLOW] * 5, []), FOLLOW), True)
        self.assertEqual(len(task.promises), 1)

    def test_refused(self):
        task, full = Task(panel_of(1), [], [FOLLOW], []), Task(panel_of(1), [], [FOLLOW] * 6, [])
        for promise in JUNK + (list(FOLLOW), ((), ("first", ("a",), 0, 1)), ((("rings", "out"),), ("never",))):
            self.refused(BadPromise, on_top, task, promise)
            self.refused(BadPromise, on_top, full, promise)
        self.refused(BadPromises, on_top, full, FOLLOW, at=None)


class Tightest(Case):
    def test_by_hand(self):
        free = Task(panel_of(1), [], [], [])
        # b, heard 1 late, is not heard any more if it rings at 2: then the output rings at 2, or b did not ring.
        # Who rings at 0 always rings from 2 ahead of b to just with b.
        self.same(tightest(free, (), "first", ("b",)), [(-2, 0), (0, 1)])
        self.same(tightest(free, (("gap", "b", "start", -1),), "first", ("b",)), [(-1, 0), (1, 1)])
        self.same(tightest(Task(panel_of(0), [], [], []), (), "latest", ("b",)), [(0, 0)])
        self.same(tightest(Task(panel_of(0), [], [], []), (), "last", ("start",)), [(0, 0), (1, 1), (2, 2)])
        self.same(tightest(Task(panel_of(0, slip=2), [], [], []), (), "last", ("start",)), [(0, 2)])
        self.same(tightest(Task(panel_of(2), [], [FOLLOW], []), (), "first", ("b",)), [])
        self.same(tightest(Task(panel_of(0), [], [NEVER], []), (), "first", ("b",)), [])
        self.same(
            tightest(Task(panel_of(0), [], [NEVER], []), (("rings", "b"), ("silent", "b")), "first", ("b",)),
            [(-2, -2), (-1, -1), (0, 0), (1, 1), (2, 2)],
        )

    def test_refused(self):
        task, full = Task(panel_of(1), [], [FOLLOW], []), Task(panel_of(1), [], [FOLLOW] * 6, [])
        for one in (task, full):
            for condition in junk_but(()) + [
                (("rings", "a"),),
                (("rings", "out"),),
                (("rings", "b"),) * 5,
                [("rings", "b")],
            ]:
                self.refused(BadCondition, tightest, one, condition, None, None, name=None)
            for which in JUNK + ("never", "start", ("first",), ["last"]):
                self.refused(BadWindow, tightest, one, (), which, None)
                self.refused(BadWindow, tightest, one, (), which, ("b",))
            for names in JUNK + (("a",), ["b"], ("b", "b"), ("start", "b"), ("out",), "b"):
                self.refused(BadWindow, tightest, one, (), "first", names)
        self.refused(BadPromises, tightest, full, (), "first", ("b",), at=None)
        self.refused(BadPromises, tightest, full, (), "last", ("start",), at=None)


class Latest(Case):
    def test_by_hand(self):
        task = Task(Panel(["b"], 2, {"b": (3, 3)}, 0), [], [], [])
        first, last = earliest(task), latest(task)
        self.same(first.answer((None,)), 0)
        self.same(last.answer((None,)), None)
        one = Task(Panel(["b"], 1, None, 0), [("x", (("rings", "out"),)), ("y", (("rings", "b"),))], [], ["y"])
        self.same(had(one, (1,)), (0, 1))
        self.same(had(one, (None,)), (0, 1, None))
        self.same(latest(one).answer((None,)), None)

    def test_waits_only_where_all_that_look_alike_can(self):
        """The output never rings if b rings at 1, and rings by 1 if b is silent: at 0 nobody knows which."""
        promises = [
            ((("gap", "start", "b", 1), ("gap", "b", "start", -1)), ("never",)),
            ((("silent", "b"),), ("first", ("start",), 0, 1)),
        ]
        task = Task(Panel(["b"], 1, None, 0), [], promises, [])
        self.same([good(task, row) for row in rows(1, 1)], [(0, 1, None), (None,), (1,)])
        self.same([latest(task).answer(row) for row in rows(1, 1)], [None, None, 1])
        # Both rows of a look can be answered at 0 alone if just one of them has no good time later.
        promises = [((("gap", "start", "b", 1),), ("first", ("start",), 0, 0))]
        task = Task(Panel(["b"], 1, None, 0), [], promises, [])
        self.same([good(task, row) for row in rows(1, 1)], [(0, 1, None), (0,), (0, 1, None)])
        self.same([latest(task).answer(row) for row in rows(1, 1)], [None, 0, 0])
        self.same([had(task, row) for row in rows(1, 1)], [(0, 1, None), (0,), (0,)])

    def test_had_at_rows_that_nothing_brings(self):
        task = Task(panel_of(1), [], [FOLLOW], [])
        self.same(had(task, (0,)), (0, 1, 2, None))
        self.same(had(task, (2,)), (2,))

    def test_a_table_between_that_does_not_keep(self):
        """At 0 never and 0 are right, 1 is not: constant 1 is between the earliest Table and the latest one."""
        task = Task(Panel(["b"], 1, None, 0), [("x", (("gap", "start", "out", 1),))], [], ["x"])
        between = constant(1, 1, 1)
        self.assertTrue(sooner(earliest(task), between) == earliest(task))
        self.assertTrue(later(latest(task), between) == latest(task))
        self.assertIs(keeps(task, between), False)

    def test_never_where_it_can(self):
        task = Task(Panel(["a", "b"], 1, None, 0), [], [((("silent", "a"), ("silent", "b")), ("never",))], [])
        self.same(latest(task).answer((None, None)), None)
        self.same(earliest(task).answer((None, None)), None)
        self.same(earliest(task).answer((1, None)), 1)
        self.same(earliest(task).answer((0, None)), 0)
        self.assertIs(keeps(task, Table(2, 1, {row: None for row in rows(2, 1)})), True)


if __name__ == "__main__":
    unittest.main()
