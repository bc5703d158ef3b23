"""Point 100: which marks can come again and again, shown by a staircase or by a pit."""

import itertools
import random
import unittest

from roundpromises.again import can_cease, can_return, fine_modes, is_pit, is_staircase, pit, staircase
from roundpromises.errors import BadLetters, BadMarks, BadWorks
from roundpromises.ever import good_modes
from roundpromises.forms import ALWAYS
from roundpromises.one import is_quarrel, keeps
from roundpromises.tables import constant
from roundpromises.works import Works, task_of
from tests.calls_works import CASES, EXACT, SOON, STILL, WORKS
from tests.helpers import JUNK, Case, times_of
from tests.small import Rounds, free_works, is_fine_round, letter_left, reached, works_by

SEEDS = range(90)
MARKS = {"x": 2, "y": 1, "other": 0}
ODD = {"x": 1, "y": 3, "other": 1}


def marks_for(works, seed):
    chance = random.Random(seed)
    return {letter: chance.randint(0, 4) for letter in works.letters}


def goes(steps, others, mark):
    """Point 100 word by word: the steps for the marks from one on, of a key that is led to and of a mode."""
    kept = [at for at, odd in enumerate((3, 1)) if odd >= mark]
    ahead, behind = tuple(others[at] for at in kept), tuple(steps[at] for at in kept)
    return behind < ahead if mark in (1, 3) else behind <= ahead


def sinks(steps, others, mark):
    kept = [at for at, even in enumerate((4, 2, 0)) if even >= mark]
    ahead, behind = tuple(others[at] for at in kept), tuple(steps[at] for at in kept)
    return behind < ahead if mark in (0, 2, 4) else behind <= ahead


def task_in(works, marks, thing, mode, falls, barred_if):
    barred = []
    for letter, to in works.ways(mode).items():
        does = to in thing and falls(thing[to][0], thing[mode][0], marks[letter])
        if does is barred_if:
            barred.append(letter)
    return task_of(works, mode, barred)


class Fine(Case):
    def fine_by_courses(self, rounds, marks, mode, plan):
        """Whether each course by a plan, an option for each mode, is fine: no cycle has an odd greatest mark."""
        met = reached(mode, lambda at: [to for _, to in rounds.goes(at, plan[at])] if at in plan else [])
        if any(at not in plan for at in met):
            return False
        for odd in (1, 3):
            for at in met:
                for letter, to in rounds.goes(at, plan[at]):
                    if marks[letter] == odd and at in reached(to, lambda by: self.low(rounds, marks, plan, by, odd)):
                        return False
        return True

    def low(self, rounds, marks, plan, mode, most):
        return [to for letter, to in rounds.goes(mode, plan[mode]) if marks[letter] <= most]

    def test_all_plans_of_small_works(self):
        fine = pits = 0
        for seed, works in [(seed, make(seed)) for seed in SEEDS for make in (works_by, free_works)]:
            rounds = Rounds(works)
            plans = list(itertools.islice(rounds.plans(), 400))
            if len(plans) == 400:
                continue
            for marks in (marks_for(works, seed), marks_for(works, seed + 1000)):
                wanted = tuple(
                    mode
                    for mode in range(len(works))
                    if any(self.fine_by_courses(rounds, marks, mode, plan) for plan in plans)
                )
                self.same(fine_modes(works, marks), wanted)
                if 0 in wanted:
                    fine += 1
                    self.assertIsNone(pit(works, marks))
                    self.judge_staircase(works, marks, wanted)
                else:
                    pits += 1
                    self.assertIsNone(staircase(works, marks))
                    self.judge_pit(works, marks, [mode for mode in range(len(works)) if mode not in wanted])
        self.assertGreater(min(fine, pits), 40)

    def judge_staircase(self, works, marks, modes):
        """It is one by the words of the document, and led by it each course is fine."""
        told = staircase(works, marks)
        self.same(tuple(told), modes)
        self.assertIs(is_staircase(works, marks, told), True)
        rounds = Rounds(works)
        plan = {}
        for mode, (steps, table) in told.items():
            self.assertTrue(all(0 <= step <= 4 * len(works) for step in steps) and len(steps) == 2)
            self.assertTrue(keeps(task_in(works, marks, told, mode, goes, False), table))
            plan[mode] = rounds.left_by(mode, table)
        for mode in modes:
            self.assertTrue(self.fine_by_courses(rounds, marks, mode, plan))

    def judge_pit(self, works, marks, modes):
        """It is one by the words of the document; whatever is answered, each cycle has an odd greatest mark."""
        told = pit(works, marks)
        self.same(list(told), modes)
        self.assertIs(is_pit(works, marks, told), True)
        ways = {}
        for mode, (steps, quarrel) in told.items():
            self.assertTrue(all(0 <= step <= 4 * len(works) for step in steps) and len(steps) == 3)
            self.assertTrue(is_quarrel(task_in(works, marks, told, mode, sinks, True), quarrel))
            ways[mode] = []
            for time, environment in quarrel[1].items():
                if is_fine_round(works, mode, environment, time):
                    letter = letter_left(works, environment, time)
                    ways[mode].append((marks[letter], works.ways(mode)[letter]))
        for even in (0, 2, 4):
            for mode in modes:
                for mark, to in ways[mode]:
                    self.assertIn(to, told)
                    low = reached(to, lambda at: [then for worth, then in ways[at] if worth <= even])
                    self.assertFalse(mark == even and mode in low)

    def test_all_marks_even_or_odd(self):
        for seed in SEEDS:
            works = works_by(seed)
            for mark in (0, 2, 4):
                self.same(fine_modes(works, dict.fromkeys(works.letters, mark)), good_modes(works))
            for mark in (1, 3):
                marks = dict.fromkeys(works.letters, mark)
                self.same(fine_modes(works, marks), ())
                self.assertIs(is_pit(works, marks, pit(works, marks)), True)
                self.assertIsNone(staircase(works, marks))
            mixed = {letter: (0, 2, 4)[at % 3] for at, letter in enumerate(works.letters)}
            self.same(fine_modes(works, mixed), good_modes(works))

    def test_each_mark(self):
        """A letter that can always be left, and one that comes only if it is wanted."""
        free = Works(EXACT, [("x", (("rings", "out"),))], [])
        for mark, other in itertools.product(range(5), repeat=2):
            fine = mark % 2 == 0 or other % 2 == 0
            self.same(fine_modes(free, {"x": mark, "other": other}), (0,) if fine else ())
        forced = Works(EXACT, [("x", (("rings", "b"),))], [])
        for mark, other in itertools.product(range(5), repeat=2):
            fine = mark % 2 == 0 and other % 2 == 0
            self.same(fine_modes(forced, {"x": mark, "other": other}), (0,) if fine else ())

    def test_a_greater_mark_in_between(self):
        """Behind x the letter z must be left: whoever leaves x again and again leaves z again and again."""
        cases = [("x", (("rings", "out"), ("gap", "out", "start", 0))), ("z", (("rings", "out"),))]
        rule = ("r", ("then", ALWAYS, ("one", "x")), ((), ("first", ("start",), 1, 2)))
        works = Works(EXACT.with_slip(0), cases, [rule])
        self.same(fine_modes(works, {"x": 4, "z": 3, "other": 1}), (0, 1))
        self.same(fine_modes(works, {"x": 2, "z": 3, "other": 1}), ())
        self.same(fine_modes(works, {"x": 2, "z": 1, "other": 1}), (0, 1))
        self.same(fine_modes(works, {"x": 1, "z": 3, "other": 0}), (0, 1))
        self.same(fine_modes(works, {"x": 1, "z": 0, "other": 3}), (0, 1))


class ReturnAndCease(Case):
    def test_as_fine_modes_tell(self):
        found = set()
        for seed in SEEDS:
            works = works_by(seed)
            for many in range(len(works.letters) + 1):
                for letters in itertools.combinations(works.letters, many):
                    back = {letter: 2 if letter in letters else 1 for letter in works.letters}
                    away = {letter: 1 if letter in letters else 0 for letter in works.letters}
                    told = (can_return(works, list(letters)), can_cease(works, letters[::-1]))
                    self.same(told, (0 in fine_modes(works, back), 0 in fine_modes(works, away)))
                    found.add(told)
        self.assertGreaterEqual(len(found), 4)

    def test_by_hand(self):
        self.same(
            (can_return(WORKS, ["x"]), can_return(WORKS, ["other"]), can_return(WORKS, ["x", "other"])),
            (False, False, True),
        )
        self.same((can_cease(WORKS, ["x"]), can_cease(WORKS, ["y"]), can_cease(WORKS, [])), (False, True, True))
        self.same((can_return(WORKS, []), can_return(WORKS, ["y"])), (False, False))

    def test_wrong(self):
        for letters in (None, "x", ["z"], ["x", "x"], {"x": 1}, [True], [["x"]], 1):
            for function in (can_return, can_cease):
                self.refused(BadLetters, function, WORKS, letters)
                self.refused(BadWorks, function, EXACT, letters, part=None)


class Wrong(Case):
    def test_marks(self):
        for marks in (
            *JUNK,
            {"x": 0, "y": 0},
            {"x": 0, "y": 0, "other": 0, "z": 0},
            {"x": 0, "y": 0, "z": 0},
            {"x": 5, "y": 0, "other": 0},
            {"x": -1, "y": 0, "other": 0},
            {"x": True, "y": 0, "other": 0},
            {"x": None, "y": 0, "other": 0},
            [("x", 0), ("y", 0), ("other", 0)],
        ):
            for function in (fine_modes, staircase, pit):
                self.refused(BadMarks, function, WORKS, marks)
                self.refused(BadWorks, function, None, marks, part=None)
            for function in (is_staircase, is_pit):
                self.refused(BadMarks, function, WORKS, marks, None)

    def test_staircases(self):
        told = staircase(WORKS, MARKS)
        self.same(told[0][0], (0, 0))
        table = told[0][1]
        for thing in (
            *JUNK,
            {0: table},
            {0: ((0,), table)},
            {0: ((0, 0, 0), table)},
            {0: ([0, 0], table)},
            {0: [(0, 0), table]},
            {0: ((0, 0), table, 0)},
            {0: ((0, True), table)},
            {0: ((False, 0), table)},
            {0: ((0, -1), table)},
            {0: ((None, 0), table)},
            {0: ((0, 0), None)},
            {0: ((0, 0), constant(1, 2, None))},
            {0: ((0, 0), constant(1, 3, None))},
            {0: ((0, 0), constant(2, 2, None))},
            {False: told[0]},
            {0: told[0], True: told[0]},
            {0: told[0], 2: told[0]},
            {0: told[0], 1: told[0]},
            {0: told[0], "x": told[0]},
        ):
            self.assertIs(is_staircase(WORKS, MARKS, thing), False)
        self.assertIs(is_staircase(WORKS, MARKS, {0: ((10**11, 10**11), table)}), True)

    def test_pits(self):
        told = pit(WORKS, ODD)
        self.same(list(told), [0, 1])
        (steps, quarrel), (other_steps, other) = told[0], told[1]
        self.assertIs(is_pit(WORKS, ODD, {1: (other_steps, other), 0: (steps, quarrel)}), True)
        for first in (
            quarrel,
            [steps, quarrel],
            (steps, quarrel, 0),
            (list(steps), quarrel),
            (steps[:2], quarrel),
            ((*steps, 0), quarrel),
            ((0, 0, True), quarrel),
            ((0, False, 0), quarrel),
            ((0, 0, -1), quarrel),
            (steps, None),
            (steps, (quarrel[0], {})),
        ):
            self.assertIs(is_pit(WORKS, ODD, {0: first, 1: told[1]}), False)
        for thing in (
            *JUNK,
            {1: told[1]},
            {False: told[0], 1: told[1]},
            {0: told[0], True: told[1]},
            {**told, 2: told[1]},
        ):
            self.assertIs(is_pit(WORKS, ODD, thing), False)
        self.assertIs(is_pit(WORKS, MARKS, told), False)

    def test_steps_must_fall(self):
        """All steps up to 2 in all keys of a works with two modes, judged by the words of the document."""
        free = Works(EXACT, CASES, [STILL])
        lost = Works(EXACT, CASES, [SOON, STILL, ("must", ALWAYS, ((), ("first", ("start",), 2, 4)))])
        for works, marks in (
            (free, {"x": 1, "y": 3, "other": 2}),
            (free, {"x": 3, "y": 2, "other": 1}),
            (lost, {"x": 0, "y": 2, "other": 1}),
            (lost, {"x": 2, "y": 4, "other": 1}),
        ):
            self.try_staircases(works, marks)
            self.try_pits(works, marks)

    def try_staircases(self, works, marks):
        tables = [constant(1, 2, time) for time in times_of(2)]
        pairs = list(itertools.product(range(2), repeat=2))
        for one, other in itertools.product(pairs, repeat=2):
            for table, second in itertools.product(tables, repeat=2):
                thing = {0: (one, table), 1: (other, second)}
                wanted = all(keeps(task_in(works, marks, thing, mode, goes, False), thing[mode][1]) for mode in thing)
                self.assertIs(is_staircase(works, marks, thing), wanted)

    def try_pits(self, works, marks):
        quarrels = [
            [((2,), dict.fromkeys(times_of(2), ((None,), (0,), 0))) for _ in range(1)],
            [((2,), {0: ((2,), (0,), 0), 1: ((2,), (0,), 0), 2: ((2,), (0,), 0), None: ((2,), (0,), 1)})],
        ]
        triples = list(itertools.product(range(2), repeat=3))
        for one, other in itertools.product(triples, repeat=2):
            for quarrel, second in itertools.product([told[0] for told in quarrels], repeat=2):
                thing = {0: (one, quarrel), 1: (other, second)}
                wanted = all(
                    is_quarrel(task_in(works, marks, thing, mode, sinks, True), thing[mode][1]) for mode in thing
                )
                self.assertIs(is_pit(works, marks, thing), wanted)


if __name__ == "__main__":
    unittest.main()
