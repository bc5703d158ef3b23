"""Point 170: which faults explain what was seen."""

import itertools
import random
import unittest

from roundpromises.errors import BadFaults, BadPanel, BadSeen, BadTable, OtherTables, TooMany
from roundpromises.field import explains, least_faults
from roundpromises.sights import Panel, environments
from roundpromises.tables import Table, constant, rung
from tests.helpers import JUNK, Case, all_tables, panels

PANEL = Panel(["b"], 2, {"b": (0, 1)}, 1)
ECHO = Table(1, 2, {(0,): 0, (1,): 1, (2,): 2, (None,): None})
NONE = ((0,), 0, False)


def all_faults(panel):
    """All faults, ascending."""
    lates = itertools.product(range(panel.length + 2), repeat=len(panel.inputs))
    return [(late, slow, stuck) for late in lates for slow in range(4) for stuck in (False, True)]


def all_rung(panel, table, faults, row):
    """When the output may ring for a row, by the words of the document: over all delays and slips."""
    lates, slow, stuck = faults
    found = set()
    ranges = [range(least, most + 1) for least, most in panel.delays]
    for delays in itertools.product(*ranges):
        heard = []
        for time, delay, late in zip(row, delays, lates):
            end = None if time is None else time + delay + late
            heard.append(end if end is not None and end <= panel.length else None)
        answer = table.answers()[tuple(heard)]
        for slip in range(panel.slip + 1):
            found.add(None if stuck or answer is None else answer + slip + slow)
    return found


def within(one, other):
    flat = [(*faults[0], faults[1], int(faults[2])) for faults in (one, other)]
    return all(less <= more for less, more in zip(*flat))


def drawn(seed):
    """A panel, a Table of it, and what faults made of some rows, at times told otherwise."""
    chance = random.Random(seed)
    inputs = ["b"] if chance.random() < 0.7 else ["b", "c"]
    length = chance.choice((1, 2, 3)) if len(inputs) == 1 else 1
    panel = chance.choice(panels(inputs, length, slips=(0, 0, 1, 2)))
    table = chance.choice(all_tables(len(inputs), length if length < 3 else 2)) if length < 3 else None
    if table is None:
        table = Table(1, 3, chance.choice([ECHO3, {row: 2 for row in ECHO3}, {row: 3 for row in ECHO3}]))
    faults = chance.choice(all_faults(panel))
    seen = []
    for _ in range(chance.randint(0, 5)):
        row = tuple(chance.choice([*range(length + 1), None]) for _ in inputs)
        every = sorted(all_rung(panel, table, faults, row), key=str)
        seen.append((row, chance.choice(every) if chance.random() < 0.9 else chance.choice((None, 0, 3, 16))))
    return panel, table, seen


ECHO3 = {(0,): 0, (1,): 1, (2,): 2, (3,): 3, (None,): None}


class Field(Case):
    def test_against_all_delays_and_slips(self):
        told = []
        for seed in range(150):
            panel, table, seen = drawn(seed)
            for faults in all_faults(panel):
                wanted = all(time in all_rung(panel, table, faults, row) for row, time in seen)
                found = explains(panel, table, faults, seen)
                self.assertIs(found, wanted)
                self.assertIs(explains(panel, table, faults, tuple(seen)), wanted)
                told.append(found)
        self.assertGreater(min(told.count(True), told.count(False)), 500)

    def test_least_faults_against_all_faults(self):
        many = []
        for seed in range(150):
            panel, table, seen = drawn(seed)
            fits = [faults for faults in all_faults(panel) if explains(panel, table, faults, seen)]
            least = [one for one in fits if not any(other != one and within(other, one) for other in fits)]
            self.same(least_faults(panel, table, seen), least)
            many.append(len(least))
        self.assertTrue({0, 1, 2} <= set(many))

    def test_without_faults_it_is_as_told_by_rung(self):
        for panel in panels(["b"], 2):
            for table in all_tables(1, 2)[::3]:
                may = {}
                for environment in environments(panel):
                    may.setdefault(environment[0], set()).add(rung(panel, table, environment))
                for row, times in may.items():
                    for time in (None, *range(17)):
                        self.assertIs(explains(panel, table, NONE, [(row, time)]), time in times)

    def test_by_hand(self):
        self.same(least_faults(PANEL, ECHO, []), [NONE])
        self.same(least_faults(PANEL, ECHO, [((0,), 0), ((0,), 1), ((1,), 3)]), [NONE])
        self.same(least_faults(PANEL, ECHO, [((0,), 3)]), [((0,), 1, False), ((1,), 0, False)])
        # Behind the end it arrives never: so it is late, or the output stuck; a slow one would ring.
        self.same(least_faults(PANEL, ECHO, [((0,), None)]), [((0,), 0, True), ((2,), 0, False)])
        self.same(least_faults(PANEL, ECHO, [((0,), None), ((1,), 2)]), [])
        self.same(least_faults(PANEL, ECHO, [((0,), 0), ((0,), None)]), [])
        self.same(least_faults(PANEL, ECHO, [((2,), None), ((None,), None)]), [NONE])
        self.same(least_faults(PANEL, ECHO, [((2,), 7)]), [])
        self.same(least_faults(PANEL, constant(1, 2, 2), [((2,), 6)]), [((0,), 3, False)])
        self.same(least_faults(PANEL, constant(1, 2, None), [((2,), None)]), [NONE])

    def test_two_inputs_by_hand(self):
        panel = Panel(["b", "c"], 1, None, 0)
        last = {row: None if None in row else max(row) for row in itertools.product((0, 1, None), repeat=2)}
        table = Table(2, 1, last)
        zero = (0, 0)
        wanted = [(zero, 1, False), ((0, 1), 0, False), ((1, 0), 0, False)]
        self.same(least_faults(panel, table, [(zero, 1)]), wanted)
        self.same(least_faults(panel, table, [(zero, 2)]), [(zero, 2, False), ((0, 1), 1, False), ((1, 0), 1, False)])
        self.same(least_faults(panel, table, [(zero, 1), ((1, 0), 1)]), [((0, 1), 0, False)])
        stuck = [(zero, 0, True), ((0, 2), 0, False), ((2, 0), 0, False)]
        self.same(least_faults(panel, table, [(zero, None)]), stuck)

    def test_each_pair_for_itself(self):
        # The delay is another one in each round, the faults are not.
        self.assertIs(explains(PANEL, ECHO, NONE, [((0,), 0), ((0,), 2)]), True)
        self.assertIs(explains(PANEL, ECHO, ((0,), 1, False), [((0,), 0), ((0,), 2)]), False)
        self.assertIs(explains(PANEL, ECHO, ((0,), 1, False), [((0,), 1), ((0,), 3)]), True)

    def test_rung_above_the_length(self):
        self.assertIs(explains(PANEL, ECHO, ((0,), 3, False), [((2,), 6)]), True)
        self.assertIs(explains(PANEL, ECHO, ((0,), 3, False), [((2,), 7)]), False)
        longest = Panel(["b"], 8, None, 2)
        for time, fits in ((13, True), (14, False), (16, False)):
            self.assertIs(explains(longest, constant(1, 8, 8), ((0,), 3, False), [((0,), time)]), fits)

    def test_stuck_never_rings(self):
        for lates, slow in itertools.product(range(4), range(4)):
            self.assertIs(explains(PANEL, ECHO, ((lates,), slow, True), [((0,), None)]), True)
            self.assertIs(explains(PANEL, ECHO, ((lates,), slow, True), [((0,), 0)]), False)

    def test_wide_ones(self):
        panel = Panel(["b", "c"], 8, {"b": (0, 9), "c": (0, 9)}, 2)
        table = Table(2, 8, {row: row[0] for row in itertools.product([*range(9), None], repeat=2)})
        seen = [((0, at % 9), at % 9 + 3) for at in range(40)]
        self.same(least_faults(panel, table, seen), least_by_hand(panel, table, seen))


def least_by_hand(panel, table, seen):
    """The second input has no part in the answers: so its number is 0."""
    fits = [
        ((late, 0), slow, stuck)
        for late in range(10)
        for slow in range(4)
        for stuck in (False, True)
        if all(time in all_rung(panel, table, ((late, 0), slow, stuck), row) for row, time in seen)
    ]
    return [one for one in fits if not any(other != one and within(other, one) for other in fits)]


class Refused(Case):
    def test_order(self):
        table = constant(1, 2, 0)
        for thing in JUNK:
            if not isinstance(thing, Panel):
                self.refused(BadPanel, explains, thing, None, None, None, part=None)
                self.refused(BadPanel, least_faults, thing, None, None, part=None)
            self.refused(BadTable, explains, PANEL, thing, None, None, part=None)
            self.refused(BadTable, least_faults, PANEL, thing, None, part=None)
        for other in (constant(2, 2, 0), constant(1, 3, 0), constant(1, 1, 0)):
            self.refused(OtherTables, explains, PANEL, other, None, None)
            self.refused(OtherTables, least_faults, PANEL, other, None)
        self.refused(BadFaults, explains, PANEL, table, None, None)
        self.refused(BadSeen, explains, PANEL, table, NONE, None, at=None)
        large = Panel(["b", "c", "d"], 3, None, 0)
        self.refused(BadSeen, least_faults, large, constant(3, 3, 0), None, at=None)
        self.refused(TooMany, least_faults, large, constant(3, 3, 0), [], most=100)
        self.assertIs(explains(large, constant(3, 3, 0), ((0, 0, 0), 0, False), []), True)
        for fits in (Panel(["b", "c", "d"], 2, None, 0), Panel(["b", "c"], 8, None, 0), Panel(["b"], 8, None, 0)):
            size = len(fits.inputs)
            self.same(least_faults(fits, constant(size, fits.length, 0), []), [((0,) * size, 0, False)])

    def test_bad_faults(self):
        for faults in (
            *JUNK,
            [(0,), 0, False],
            ([0], 0, False),
            ((0,), 0),
            ((0,), 0, False, 0),
            ((), 0, False),
            ((0, 0), 0, False),
            (0, 0, False),
            ((4,), 0, False),
            ((-1,), 0, False),
            ((True,), 0, False),
            ((None,), 0, False),
            (("0",), 0, False),
            ((0,), 4, False),
            ((0,), -1, False),
            ((0,), True, False),
            ((0,), None, False),
            ((0,), 0, 0),
            ((0,), 0, 1),
            ((0,), 0, None),
        ):
            self.refused(BadFaults, explains, PANEL, ECHO, faults, None)
        self.assertIs(explains(PANEL, ECHO, ((3,), 3, True), []), True)

    def test_bad_seen(self):
        for thing in JUNK:
            if not isinstance(thing, (list, tuple)):
                self.refused(BadSeen, explains, PANEL, ECHO, NONE, thing, at=None)
                self.refused(BadSeen, least_faults, PANEL, ECHO, thing, at=None)
        right = ((0,), 1)
        for item in (
            *JUNK,
            [(0,), 1],
            ([0], 1),
            ((0,),),
            ((0,), 1, 1),
            ((0, 0), 1),
            ((), 1),
            (0, 1),
            ((3,), 1),
            ((-1,), 1),
            ((True,), 1),
            (("0",), 1),
            ((0,), True),
            ((0,), False),
            ((0,), 17),
            ((0,), -1),
            ((0,), "1"),
            ((0,), (1,)),
        ):
            for at in (0, 2):
                seen = [right] * at + [item, None]
                self.refused(BadSeen, explains, PANEL, ECHO, NONE, seen, at=at)
                self.refused(BadSeen, least_faults, PANEL, ECHO, tuple(seen), at=at)
        self.assertIs(explains(PANEL, ECHO, NONE, [right, ((None,), None), ((2,), 2)]), True)
        self.assertIs(explains(PANEL, ECHO, NONE, [right, ((0,), 16)]), False)


if __name__ == "__main__":
    unittest.main()
