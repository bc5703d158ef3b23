"""Point 50: Tables."""

import itertools
import random
import unittest

from roundpromises.errors import (
    BadEnvironment,
    BadLength,
    BadMoment,
    BadPanel,
    BadRow,
    BadSize,
    BadTable,
    OtherTables,
)
from roundpromises.rows import rows
from roundpromises.sights import Panel, environments
from roundpromises.tables import Table, constant, later, rung, sooner
from tests.helpers import JUNK, Case, all_answers, all_tables, late, seen_until, times_of


def hangs_on_later(answers):
    """Whether some row has a moment as its answer that a row that looks alike until then has not."""
    return any(
        moment is not None and seen_until(other, moment) == seen_until(row, moment) and answers[other] != moment
        for row, moment in answers.items()
        for other in answers
    )


def place(item):
    return [late(time) for time in item[0]]


def drawn_answers(chance, size, length):
    """The answers of a Table, drawn look by look."""
    found = {}
    groups = [rows(size, length)]
    for moment in range(length + 1):
        looks = {}
        for row in itertools.chain(*groups):
            looks.setdefault(seen_until(row, moment), []).append(row)
        groups = []
        for group in looks.values():
            if chance.random() < 0.25:
                found.update((row, moment) for row in group)
            else:
                groups.append(group)
    found.update((row, None) for row in itertools.chain(*groups))
    return found


class Tables(Case):
    def test_just_those_that_do_not_hang_on_what_comes_later(self):
        for size, length, many in ((1, 1, 3 * 5), (1, 2, 4 * (1 + 3 * 5))):
            found = 0
            for answers in itertools.product(times_of(length), repeat=len(rows(size, length))):
                answers = dict(zip(rows(size, length), answers))
                if hangs_on_later(answers):
                    self.refused(BadTable, Table, size, length, answers, part="answers")
                else:
                    found += 1
                    self.same(Table(size, length, answers).answers(), answers)
            self.assertEqual(found, many)
            self.assertEqual(len(all_answers(size, length)), many)

    def test_two_inputs(self):
        every = all_answers(2, 1)
        self.assertEqual(len(every), 3 * 5 * 5 * 17)
        for answers in every[::20]:
            table = Table(2, 1, answers)
            for row, time in table.answers().items():
                self.same(table.answer(row), time)
                for other in times_of(1):
                    changed = {**answers, row: other}
                    if hangs_on_later(changed):
                        self.refused(BadTable, Table, 2, 1, changed, part="answers")
                    else:
                        self.same(Table(2, 1, changed).answer(row), other)

    def test_three_inputs(self):
        """Drawn answers of three inputs, and all that differ from them in one row."""
        fits = 0
        for seed in range(12):
            chance = random.Random(seed)
            answers = drawn_answers(chance, 3, 2)
            self.same(Table(3, 2, answers).answers(), dict(sorted(answers.items(), key=place)))
            for row in chance.sample(rows(3, 2), 20):
                for time in times_of(2):
                    changed = {**answers, row: time}
                    if hangs_on_later(changed):
                        self.refused(BadTable, Table, 3, 2, changed, part="answers")
                    else:
                        fits += changed != answers
                        self.same(Table(3, 2, changed).answer(row), time)
        self.assertGreater(fits, 20)

    def test_sooner_and_later_of_three_inputs(self):
        for seed in range(10):
            chance = random.Random(seed)
            one, other = [Table(3, 3, drawn_answers(chance, 3, 3)) for _ in range(2)]
            early, last = sooner(one, other), later(one, other)
            for row in rows(3, 3):
                times = sorted([one.answer(row), other.answer(row)], key=late)
                self.same([early.answer(row), last.answer(row)], times)
            self.assertFalse(hangs_on_later(early.answers()) or hangs_on_later(last.answers()))

    def test_refused(self):
        answers = {row: None for row in rows(1, 2)}
        for size in (0, 4, None, True, "1", [1]):
            self.refused(BadTable, Table, size, 0, None, part="size")
        for length in (0, 9, None, True, "2"):
            self.refused(BadTable, Table, 1, length, None, part="length")
        for bad in (
            None,
            [],
            {},
            list(answers.items()),
            {**answers, (3,): None},
            {**answers, (0, 0): None},
            {**answers, (2,): 3},
            {**answers, (2,): -1},
            {**answers, (2,): True},
            {**answers, (2,): "2"},
            {**answers, (2,): [2]},
            {**answers, "x": None},
            {row: None for row in rows(1, 2)[1:]},
            {row: None for row in rows(2, 2)},
            {row: None for row in rows(1, 3)},
            {(0,): None, (True,): None, (2,): None, (None,): None},
            {(False,): None, (1,): None, (2,): None, (None,): None},
            {(0,): None, 1: None, (2,): None, (None,): None},
        ):
            self.refused(BadTable, Table, 1, 2, bad, part="answers")
        self.refused(BadTable, Table, 1, 2, {row: False for row in rows(1, 2)}, part="answers")

    def test_answers_hang_on_nothing_later(self):
        self.refused(BadTable, Table, 1, 1, {(0,): None, (1,): 0, (None,): None}, part="answers")
        self.refused(BadTable, Table, 1, 1, {(0,): None, (1,): None, (None,): 0}, part="answers")
        self.same(Table(1, 1, {(0,): 1, (1,): 1, (None,): None}).answer((1,)), 1)
        self.same(Table(1, 8, {row: 8 if row == (8,) else None for row in rows(1, 8)}).answer((8,)), 8)

    def test_attributes_and_methods(self):
        answers = {row: None for row in reversed(rows(1, 2))}
        table = Table(1, 2, answers)
        self.same((table.size, table.length), (1, 2))
        answers[(0,)] = 0
        self.same(table.answers(), {(0,): None, (1,): None, (2,): None, (None,): None})
        table.answers().clear()
        self.same(table.answer((0,)), None)
        self.assertEqual(len(table.answers()), 4)
        for row in (None, (), (3,), (0, 0), [0], (True,), "0", 0):
            self.refused(BadRow, table.answer, row)

    def test_equality(self):
        table = constant(1, 2, 1)
        self.assertTrue(table == Table(1, 2, {row: 1 for row in reversed(rows(1, 2))}))
        for other in (constant(1, 2, 2), constant(1, 2, None), constant(1, 3, 1), constant(2, 2, 1)):
            self.assertTrue(table != other)
            self.assertFalse(table == other)

    def test_constant(self):
        for size, length in ((1, 1), (2, 3), (3, 2), (1, 8), (3, 8)):
            for moment in (0, length, None):
                table = constant(size, length, moment)
                self.same(table.answers(), {row: moment for row in rows(size, length)})
        for size in (0, 4, None, True):
            self.refused(BadSize, constant, size, 0, 9)
        for length in (0, 9, None, True):
            self.refused(BadLength, constant, 1, length, 9)
        for moment in (3, -1, True, False, "1", [], (0,)):
            self.refused(BadMoment, constant, 1, 2, moment)

    def test_sooner_and_later(self):
        every = all_tables(1, 1) + []
        pairs = list(itertools.product(every, repeat=2))
        pairs += list(itertools.product(all_tables(1, 2), repeat=2))
        pairs += list(itertools.product(all_tables(2, 1)[::60], repeat=2))
        for one, other in pairs:
            for row, time in sooner(one, other).answers().items():
                self.same(time, min(one.answer(row), other.answer(row), key=late))
            for row, time in later(one, other).answers().items():
                self.same(time, max(one.answer(row), other.answer(row), key=late))

    def test_sooner_and_later_refuse(self):
        for function in (sooner, later):
            for thing in JUNK:
                self.refused(BadTable, function, thing, None, part=None)
                self.refused(BadTable, function, constant(1, 1, 0), thing, part=None)
            self.refused(OtherTables, function, constant(1, 1, 0), constant(1, 2, 0))
            self.refused(OtherTables, function, constant(1, 1, 0), constant(2, 1, 0))

    def test_rung(self):
        panel = Panel(["a"], 2, {"a": (0, 3)}, 2)
        table = Table(1, 2, {(0,): 2, (1,): 1, (2,): 2, (None,): None})
        for environment in environments(panel):
            (time,), (delay,), slip = environment
            arrival = None if time is None or time + delay > 2 else time + delay
            moment = {0: 2, 1: 1, 2: 2, None: None}[arrival]
            self.same(rung(panel, table, environment), None if moment is None else moment + slip)
        self.same(rung(panel, table, ((0,), (0,), 2)), 4)

    def test_rung_refuses(self):
        panel, table = Panel(["a"], 2, {"a": (0, 1)}, 0), constant(1, 2, 0)
        for thing in (None, table, "x", 3):
            self.refused(BadPanel, rung, thing, None, None, part=None)
        for thing in (None, panel, "x", 3):
            self.refused(BadTable, rung, panel, thing, None, part=None)
        for other in (constant(1, 3, 0), constant(2, 2, 0), constant(1, 1, None)):
            self.refused(OtherTables, rung, panel, other, None)
        for environment in (None, ((0,), (2,), 0), ((0,), (0,), True), [(0,), (0,), 0]):
            self.refused(BadEnvironment, rung, panel, table, environment)

    def test_largest(self):
        table = Table(3, 8, {row: (row[0] if row[0] is not None else None) for row in rows(3, 8)})
        self.same(table.answer((8, None, 0)), 8)
        self.same(table.answer((None, 0, 0)), None)
        answers = table.answers()
        answers[(8, 8, 8)] = 7
        self.refused(BadTable, Table, 3, 8, answers, part="answers")


if __name__ == "__main__":
    unittest.main()
