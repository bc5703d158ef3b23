"""Point 160: what tries show of a Table that is not known."""

import functools
import itertools
import random
import unittest

from roundpromises.bench import (
    first_wrong_try,
    may_answer,
    next_try,
    surely_breaks,
    surely_keeps,
    tries_needed,
)
from roundpromises.errors import BadLength, BadRow, BadSize, BadTable, BadTask, BadTries
from roundpromises.one import Task, earliest, keeps, latest
from roundpromises.rows import rows
from roundpromises.sights import Panel
from roundpromises.tables import Table, constant
from tests.calls import LOST, TASK
from tests.helpers import JUNK, Case, all_answers, late, pairs_of_delays, seen_until, times_of
from tests.small import PROMISES

KINDS = ((1, 1), (1, 2), (2, 1))


@functools.lru_cache(None)
def every(size, length):
    return all_answers(size, length)


def drawn_tries(size, length, seed, most=5):
    """Tries of one, two or three Tables, so that they do not always agree."""
    chance = random.Random(seed)
    tables = chance.choices(every(size, length), k=chance.choice((1, 1, 1, 2, 3)))
    tries = []
    for _ in range(chance.randint(0, most)):
        row = chance.choice(rows(size, length))
        tries.append((row, chance.choice(tables)[row]))
    return tries


def fitting(size, length, tries):
    return [answers for answers in every(size, length) if all(answers[row] == time for row, time in tries)]


def agreeing():
    """For each kind: tries that agree, and all Tables that answer so."""
    for size, length in KINDS:
        for seed in range(60 if size == 1 else 25):
            tries = drawn_tries(size, length, seed)
            left = fitting(size, length, tries)
            if left:
                yield size, length, tries, left


class Tries(Case):
    def test_first_wrong_try(self):
        found = []
        for size, length in KINDS:
            for seed in range(150 if size == 1 else 40):
                tries = drawn_tries(size, length, seed)
                wanted = None
                for at in reversed(range(len(tries))):
                    if not fitting(size, length, tries[: at + 1]):
                        wanted = at
                self.same(first_wrong_try(size, length, tries), wanted)
                found.append(wanted)
                if wanted is not None:
                    for call in (
                        lambda: may_answer(size, length, tries, None),
                        lambda: next_try(size, length, tries),
                    ):
                        self.refused(BadTries, call, at=wanted)
        self.assertTrue({None, 1, 2, 3} <= set(found))

    def test_by_hand(self):
        self.same(first_wrong_try(1, 2, []), None)
        self.same(first_wrong_try(1, 2, ()), None)
        self.same(first_wrong_try(1, 2, [((0,), 1), ((0,), 1), ((0,), 1)]), None)
        self.same(first_wrong_try(1, 2, [((0,), 1), ((0,), 2)]), 1)
        self.same(first_wrong_try(1, 2, [((2,), 1), ((None,), 1)]), None)
        self.same(first_wrong_try(1, 2, [((2,), 1), ((None,), 2), ((None,), 1)]), 1)
        self.same(first_wrong_try(1, 2, [((2,), 2), ((None,), 0)]), 1)
        self.same(first_wrong_try(1, 2, [((2,), None), ((None,), 2)]), None)
        self.same(first_wrong_try(1, 2, [((2,), None), ((None,), None), ((2,), 2)]), 2)
        self.same(first_wrong_try(2, 8, [((5, 7), 5), ((5, None), 5), ((5, 6), 6)]), 2)

    def test_bad_tries(self):
        fits = ((0,), 1)
        for thing in (
            *JUNK,
            list(fits),
            ((0,),),
            (*fits, 0),
            ([0], 1),
            ((True,), 1),
            ((False,), 1),
            ((0,), True),
            ((0,), False),
            ((0,), 3),
            ((0,), -1),
            ((0,), "1"),
            ((0,), (1,)),
            ((3,), 1),
            ((0, 0), 1),
            (0, 1),
            (None, 1),
        ):
            for ahead in ([], [fits], [((0,), 1), ((0,), 2)]):
                tries = ahead + [thing, None]
                # Also ahead of tries that do not agree.
                self.refused(BadTries, first_wrong_try, 1, 2, tries, at=len(ahead))
                self.refused(BadTries, may_answer, 1, 2, tries, None, at=len(ahead))
                self.refused(BadTries, next_try, 1, 2, tries, at=len(ahead))
                self.refused(BadTries, surely_keeps, TASK, tries, at=len(ahead))
                self.refused(BadTries, surely_breaks, TASK, tuple(tries), at=len(ahead))
        for tries in (None, True, 0, "a", {}, {(0,): 1}, constant(1, 2, 0)):
            self.refused(BadTries, first_wrong_try, 1, 2, tries, at=None)
            self.refused(BadTries, may_answer, 1, 2, tries, None, at=None)
            self.refused(BadTries, next_try, 1, 2, tries, at=None)
            self.refused(BadTries, surely_keeps, TASK, tries, at=None)
            self.refused(BadTries, surely_breaks, TASK, tries, at=None)

    def test_order_of_errors(self):
        for size in (0, 4, None, True, "1"):
            self.refused(BadSize, first_wrong_try, size, None, None)
            self.refused(BadSize, may_answer, size, None, None, None)
            self.refused(BadSize, next_try, size, None, None)
        for length in (0, 9, None, True, "1"):
            self.refused(BadLength, first_wrong_try, 1, length, None)
            self.refused(BadLength, may_answer, 1, length, None, None)
            self.refused(BadLength, next_try, 1, length, None)
        self.refused(BadTries, may_answer, 1, 2, [((0,), 1), ((0,), 2)], None, at=1)
        for arrivals in (None, [0], (0, 0), (3,), (True,), 0):
            self.refused(BadRow, may_answer, 1, 2, [((0,), 1)], arrivals)
        for thing in JUNK:
            self.refused(BadTask, surely_keeps, thing, None, part=None)
            self.refused(BadTask, surely_breaks, thing, None, part=None)
            self.refused(BadTable, tries_needed, thing, part=None)
        self.refused(BadTries, surely_keeps, TASK, [((0,), 1), ((0,), 2)], at=1)
        self.refused(BadTries, surely_breaks, TASK, [((0,), 1), ((0,), 2)], at=1)


class Answers(Case):
    def test_may_answer_and_next_try(self):
        for size, length, tries, left in agreeing():
            many = {}
            for row in rows(size, length):
                wanted = tuple(sorted({answers[row] for answers in left}, key=late))
                self.same(may_answer(size, length, tries, row), wanted)
                many[row] = len(wanted)
                # As the document tells it: time by time.
                told = [
                    time
                    for time in times_of(length)
                    if all(self.does(time, row, arrivals, moment) for arrivals, moment in tries)
                ]
                self.same(wanted, tuple(told))
            most = max(many.values())
            first = [row for row in rows(size, length) if many[row] == most][0]
            self.same(next_try(size, length, tries), None if most == 1 else first)

    def does(self, time, row, arrivals, moment):
        for until in (time, moment):
            if seen_until(row, until) == seen_until(arrivals, until) and time != moment:
                return False
        return True

    def test_without_tries(self):
        for size, length in KINDS:
            self.same(next_try(size, length, []), (0,) * size)
            for row in rows(size, length):
                self.same(may_answer(size, length, [], row), tuple(times_of(length)))

    def test_largest(self):
        """Three inputs and the length 8: what a row tells of itself, and of those that look like it."""
        tries = [((time, time, None), time) for time in range(9)]
        self.same(first_wrong_try(3, 8, tries), None)
        self.same(may_answer(3, 8, tries, (3, 3, 7)), (3,))
        self.same(may_answer(3, 8, tries, (3, 4, 7)), (3, 4, 5, 6, 7, 8, None))
        self.same(may_answer(3, 8, tries, (None, None, None)), (8, None))
        self.same(next_try(3, 8, tries), (0, 0, 0))
        self.same(len(may_answer(3, 8, tries, (0, 0, 0))), 10)
        self.same(first_wrong_try(3, 8, tries + [((4, 4, 4), 4), ((5, 5, 2), 5), ((4, 4, 8), 3)]), 11)
        every_row = [(row, 0) for row in itertools.product((0, None), repeat=3)]
        self.same(next_try(3, 8, every_row), None)
        last = [((0,) * 3, None)] * 40
        self.same(next_try(3, 8, last), (0, 0, 1))


class Needed(Case):
    def test_all_sets_of_tries(self):
        """The least number of rows whose answers no other Table has."""
        for size, length, step in ((1, 1, 1), (1, 2, 1), (2, 1, 97)):
            for answers in every(size, length)[::step]:
                self.same(tries_needed(Table(size, length, answers)), self.least(size, length, answers))

    def least(self, size, length, answers):
        table_rows = rows(size, length)
        unlike = [
            {at for at, row in enumerate(table_rows) if other[row] != answers[row]}
            for other in every(size, length)
            if other != answers
        ]
        unlike = [rows_of for rows_of in unlike if not any(less < rows_of for less in unlike)]
        for many in range(len(table_rows) + 1):
            for chosen in itertools.combinations(range(len(table_rows)), many):
                if all(rows_of & set(chosen) for rows_of in unlike):
                    return many
        return None

    def test_as_many_as_different_looks_are_answered(self):
        for size, length in KINDS:
            for answers in every(size, length)[::7]:
                pairs = {(seen_until(row, time), time) for row, time in answers.items()}
                self.same(tries_needed(Table(size, length, answers)), len(pairs))

    def test_constant_tables(self):
        for size, length in ((1, 1), (1, 8), (2, 3), (3, 8)):
            for moment in (*range(length + 1), None):
                # Until a moment each input has come at one of the moments so far, or not yet.
                many = (length if moment is None else moment) + 2
                self.same(tries_needed(constant(size, length, moment)), many**size)


class Surely(Case):
    def test_all_tables(self):
        found = []
        for seed in range(60):
            chance = random.Random(seed)
            length = chance.choice((1, 2))
            panel = Panel(["b"], length, {"b": chance.choice(pairs_of_delays(length))}, chance.choice((0, 0, 1)))
            task = Task(panel, [], chance.sample(PROMISES, chance.randint(0, 2)), [])
            kept = [keeps(task, Table(1, length, answers)) for answers in every(1, length)]
            for at in range(8):
                tries = drawn_tries(1, length, seed * 8 + at, most=3)
                if at in (0, 1) and earliest(task) is not None:
                    table = earliest(task) if at else latest(task)
                    tries = [(row, table.answer(row)) for row in rows(1, length)[: at + 2]]
                agree = [answers in fitting(1, length, tries) for answers in every(1, length)]
                if any(agree):
                    told = [keep for keep, fits in zip(kept, agree) if fits]
                    self.assertIs(surely_keeps(task, tries), all(told))
                    self.assertIs(surely_breaks(task, tries), not any(told))
                    found.append((all(told), any(told)))
        for kind in ((True, True), (False, True), (False, False)):
            self.assertGreater(found.count(kind), 5)

    def test_two_inputs(self):
        panel = Panel(["b", "c"], 1, {"b": (0, 1), "c": (0, 0)}, 0)
        task = Task(panel, [], [((), ("last", ("b", "c"), 0, 1))], [])
        kept = [keeps(task, Table(2, 1, answers)) for answers in every(2, 1)]
        for seed in range(12):
            tries = drawn_tries(2, 1, seed, most=3)
            agreeing = [all(answers[row] == time for row, time in tries) for answers in every(2, 1)]
            told = [keep for keep, agrees in zip(kept, agreeing) if agrees]
            if told:
                self.assertIs(surely_keeps(task, tries), all(told))
                self.assertIs(surely_breaks(task, tries), not any(told))

    def test_without_tries(self):
        panel = Panel(["p", "q", "r"], 8, None, 0)
        free = Task(panel, [], [], [])
        self.assertIs(surely_keeps(free, []), True)
        self.assertIs(surely_breaks(free, []), False)
        some = Task(panel, [], [((), ("first", ("p", "q", "r"), 0, 0))], [])
        self.assertIs(surely_keeps(some, []), False)
        self.assertIs(surely_breaks(some, []), False)
        wrong = [((3, 4, None), 4)]
        self.assertIs(surely_breaks(some, wrong), True)
        self.assertIs(surely_breaks(some, [((3, 4, None), 3)]), False)
        whole = [(row, min(row, key=late)) for row in rows(3, 8)]
        self.assertIs(surely_keeps(some, whole[:40]), False)

    def test_a_task_that_no_table_keeps(self):
        self.assertIsNone(earliest(LOST))
        for tries in ([], [((0,), 0)], [((0,), None), ((2,), None)]):
            self.assertIs(surely_keeps(LOST, tries), False)
            self.assertIs(surely_breaks(LOST, tries), True)

    def test_rows_that_nothing_brings_count(self):
        """Tables that agree may answer them as they like: only what looks alike later can be wrong by it."""
        panel = Panel(["b"], 2, {"b": (2, 2)}, 0)
        task = Task(panel, [], [((), ("first", ("start",), 2, 2))], [])
        told = [((2,), 2), ((None,), 2)]
        self.assertIs(surely_keeps(task, told), all(keeps(task, Table(1, 2, one)) for one in fitting(1, 2, told)))


if __name__ == "__main__":
    unittest.main()
