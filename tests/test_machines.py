"""Points 120 and 121: machines, alone and with works."""

import itertools
import random
import unittest

from roundpromises.errors import (
    BadEnvironment,
    BadGains,
    BadMachine,
    BadMarks,
    BadWord,
    BadWorks,
    OtherMachines,
)
from roundpromises.again import fine_modes
from roundpromises.ever import good_modes, lasts, strategy
from roundpromises.forms import ALWAYS
from roundpromises.machines import (
    Machine,
    breaking,
    is_fine_with,
    keeps_for_ever,
    least_machine,
    led,
    machine_of,
    machines_alike,
    parting_course,
    stock_with,
)
from roundpromises.sights import Panel, arrivals_of, environments
from roundpromises.stock import larder, least_stock
from roundpromises.tables import constant
from roundpromises.works import Works
from tests.calls_works import CASES, EXACT, LOST, WORKS
from tests.helpers import JUNK, Case
from tests.small import Rounds, free_works, is_fine_round, letter_left, tables_of, works_by

ONE, TWO = constant(1, 2, 1), constant(1, 2, 2)
NEVER = constant(1, 2, None)
LETTERS = ("x", "y", "other")
LOOP = {"x": 0, "y": 0, "other": 0}
CALM = Machine(1, 2, LETTERS, [(NEVER, LOOP)])


def machine_by(works, seed, most=3):
    chance = random.Random(seed)
    many = chance.randint(1, most)
    tables = chance.sample(tables_of(works.panel.length), 2)
    states = [
        (chance.choice(tables), {letter: chance.randrange(many) for letter in works.letters}) for _ in range(many)
    ]
    return Machine(1, works.panel.length, works.letters, states)


def words(letters, longest):
    for many in range(longest + 1):
        yield from itertools.product(letters, repeat=many)


class Making(Case):
    def test_attributes(self):
        machine = Machine(1, 2, LETTERS, [(ONE, {"other": 0, "y": 1, "x": 2}), (TWO, LOOP), (ONE, LOOP)])
        self.same((machine.size, machine.length, machine.letters), (1, 2, LETTERS))
        self.same([ways for _, ways in machine.states], [(2, 1, 0), (0, 0, 0), (0, 0, 0)])
        self.assertIsInstance(machine.states, tuple)
        self.assertTrue(all(isinstance(state, tuple) and len(state) == 2 for state in machine.states))
        self.assertTrue([table for table, _ in machine.states] == [ONE, TWO, ONE])
        self.same(len(machine), 3)

    def test_behind_words(self):
        machine = Machine(1, 2, LETTERS, [(ONE, {"other": 0, "y": 1, "x": 2}), (TWO, LOOP), (NEVER, LOOP)])
        self.same([machine.state_behind(word) for word in ((), ("x",), ("y",), ("y", "y"))], [0, 2, 1, 0])
        self.assertTrue(machine.table_behind(()) == ONE)
        self.assertTrue(machine.table_behind(("other", "x")) == NEVER)
        for word in (None, "x", ["x"], ("z",), (1,), (True,), ("x", None)):
            self.refused(BadWord, machine.state_behind, word)
            self.refused(BadWord, machine.table_behind, word)

    def test_one_state_and_24_and_more(self):
        ring = [(ONE, {letter: (at + 1) % 24 for letter in LETTERS}) for at in range(24)]
        self.same(len(Machine(1, 2, LETTERS, ring)), 24)
        self.same(Machine(1, 2, LETTERS, tuple(ring)).state_behind(("x",) * 23), 23)
        self.same(len(Machine(1, 2, LETTERS, [(ONE, LOOP)])), 1)
        self.refused(BadMachine, Machine, 1, 2, LETTERS, [(ONE, LOOP)] * 25, part="states")
        self.refused(BadMachine, Machine, 1, 2, LETTERS, [], part="states")

    def test_order_of_errors(self):
        for args, part in (
            ((None, None, None, None), "size"),
            ((4, 2, LETTERS, []), "size"),
            ((True, 2, LETTERS, []), "size"),
            ((0, 2, LETTERS, []), "size"),
            ((1, None, None, None), "length"),
            ((1, 9, None, None), "length"),
            ((1, 0, None, None), "length"),
            ((1, False, None, None), "length"),
            ((1, 2, None, None), "letters"),
            ((1, 2, [], None), "letters"),
            ((1, 2, ["x"], None), "letters"),
            ((1, 2, (), None), "letters"),
            ((1, 2, ("x", "x"), None), "letters"),
            ((1, 2, ("out",), None), "letters"),
            ((1, 2, ("a", "b", "c", "d", "e"), None), "letters"),
            ((1, 2, (1,), None), "letters"),
            ((1, 2, LETTERS, None), "states"),
        ):
            self.refused(BadMachine, Machine, *args, part=part)

    def test_wrong_states(self):
        for state in (
            None,
            ONE,
            [ONE, LOOP],
            (ONE,),
            (ONE, LOOP, 0),
            (None, LOOP),
            (constant(1, 3, 0), LOOP),
            (constant(2, 2, 0), LOOP),
            (ONE, None),
            (ONE, [0, 0, 0]),
            (ONE, (0, 0, 0)),
            (ONE, {"x": 0, "y": 0}),
            (ONE, {**LOOP, "z": 0}),
            (ONE, {"x": 0, "y": 0, "z": 0}),
            (ONE, {**LOOP, "x": 2}),
            (ONE, {**LOOP, "x": -1}),
            (ONE, {**LOOP, "x": True}),
            (ONE, {**LOOP, "x": False}),
            (ONE, {**LOOP, "x": None}),
        ):
            self.refused(BadMachine, Machine, 1, 2, LETTERS, [(ONE, LOOP), state], part="states")
        self.refused(BadMachine, Machine, 1, 2, LETTERS, {0: (ONE, LOOP)}, part="states")

    def test_equal(self):
        states = [(ONE, {**LOOP, "x": 1}), (TWO, LOOP)]
        machine = Machine(1, 2, LETTERS, states)
        self.assertTrue(machine == Machine(1, 2, LETTERS, tuple(states)))
        for unlike in (
            Machine(1, 2, LETTERS, states[::-1]),
            Machine(1, 2, LETTERS, [(ONE, {**LOOP, "y": 1}), (TWO, LOOP)]),
            Machine(1, 2, LETTERS, [(ONE, {**LOOP, "x": 1}), (ONE, LOOP)]),
            Machine(1, 2, ("y", "x", "other"), states),
            Machine(1, 3, LETTERS, [(constant(1, 3, None), LOOP)]),
            CALM,
        ):
            self.assertFalse(machine == unlike)
        self.assertFalse(Machine(1, 2, ("y", "x", "other"), [(NEVER, LOOP)]) == CALM)
        self.assertFalse(Machine(2, 2, LETTERS, [(constant(2, 2, None), LOOP)]) == CALM)
        for other in JUNK:
            self.assertFalse(machine == other)


class Alike(Case):
    def some(self, many):
        for seed in range(many):
            works = works_by(seed)
            yield works, machine_by(works, seed), machine_by(works, seed + 500)

    def first_word(self, one, other):
        longest = 4 if len(one.letters) < 4 else 3
        for word in words(one.letters, longest):
            if one.table_behind(word) != other.table_behind(word):
                return word
        return None

    def test_behind_every_word(self):
        alike = 0
        for works, one, other in self.some(80):
            least = least_machine(one)
            for pair in ((one, other), (other, one), (one, least), (least, one), (one, one)):
                wanted = self.first_word(*pair)
                found = parting_course(*pair)
                self.assertTrue(found == wanted or (wanted is None and len(found) > 3))
                self.assertIs(machines_alike(*pair), found is None)
                alike += found is None
            self.assertTrue(machines_alike(one, least))
        self.assertTrue(240 <= alike < 400)

    def test_as_few_states_as_can_be_by_their_shortest_words(self):
        fewer = 0
        for works, one, other in self.some(120):
            for machine in (one, other):
                least = least_machine(machine)
                self.assertEqual(len(least), self.kinds(machine))
                first = {}
                for word in words(machine.letters, 4):
                    first.setdefault(least.state_behind(word), word)
                self.assertEqual(list(first), list(range(len(least))))
                self.assertTrue(least_machine(least) == least)
                fewer += len(least) < len(machine)
        self.assertGreater(fewer, 30)

    def kinds(self, machine):
        """How many of the states that words lead to answer unlike each other behind some word."""
        told = []
        for word in words(machine.letters, 3):
            tables = [machine.table_behind(word + more) for more in words(machine.letters, 2)]
            if tables not in told:
                told.append(tables)
        return len(told)

    def test_unlike_numbers_of_states(self):
        ring = [(ONE if at % 2 else TWO, {letter: (at + 1) % 6 for letter in LETTERS}) for at in range(6)]
        other = [(ONE if at % 2 else TWO, {letter: (at + 1) % 4 for letter in LETTERS}) for at in range(4)]
        one, two = Machine(1, 2, LETTERS, ring), Machine(1, 2, LETTERS, other)
        self.assertIs(machines_alike(one, two), True)
        least = Machine(1, 2, LETTERS, [(TWO, dict.fromkeys(LETTERS, 1)), (ONE, dict.fromkeys(LETTERS, 0))])
        self.assertTrue(least_machine(one) == least_machine(two) == least)
        longer = Machine(1, 2, LETTERS, [*ring[:5], (NEVER, LOOP)])
        self.same(parting_course(one, longer), ("x",) * 5)

    def test_states_that_no_word_leads_to(self):
        machine = Machine(1, 2, LETTERS, [(ONE, LOOP), (TWO, {**LOOP, "y": 1})])
        self.assertTrue(least_machine(machine) == Machine(1, 2, LETTERS, [(ONE, LOOP)]))

    def test_numbers_by_the_order_of_letters(self):
        states = [(ONE, {"x": 2, "y": 1, "other": 0}), (TWO, LOOP), (NEVER, LOOP)]
        least = least_machine(Machine(1, 2, LETTERS, states))
        self.assertTrue([table for table, _ in least.states] == [ONE, NEVER, TWO])
        other = least_machine(Machine(1, 2, ("y", "x", "other"), states))
        self.assertTrue([table for table, _ in other.states] == [ONE, TWO, NEVER])

    def test_wrong(self):
        for function in (machines_alike, parting_course):
            self.refused(BadMachine, function, None, None, part=None)
            self.refused(BadMachine, function, CALM, WORKS, part=None)
            for other in (
                Machine(1, 3, LETTERS, [(constant(1, 3, None), LOOP)]),
                Machine(2, 2, LETTERS, [(constant(2, 2, None), LOOP)]),
                Machine(1, 2, ("y", "x", "other"), [(NEVER, LOOP)]),
                Machine(1, 2, ("x", "other"), [(NEVER, {"x": 0, "other": 0})]),
            ):
                self.refused(OtherMachines, function, CALM, other)
        self.refused(BadMachine, least_machine, WORKS, part=None)


def course_of(works, machine, given):
    """The course by the words of the document, and for each round whether it keeps its promises."""
    word, found, kept = (), [], []
    for environment in given:
        moment = machine.table_behind(word).answer(arrivals_of(works.panel, environment))
        letter = letter_left(works, environment, moment)
        found.append((environment, moment, letter))
        kept.append(is_fine_round(works, works.mode_behind(word), environment, moment))
        word += (letter,)
    return found, kept


class Courses(Case):
    """All courses of small machines."""

    def some(self, many):
        for seed in range(many):
            for works in (works_by(seed, most_rules=2, lengths=(1,)), free_works(seed)):
                yield seed, works, machine_by(works, seed)
                told = machine_of(works)
                if told is not None:
                    yield seed, works, told

    def lists(self, works, longest):
        every = environments(works.panel)
        for many in range(longest + 1):
            yield from itertools.product(every[:: 1 + len(every) // 6], repeat=many)

    def test_led(self):
        for _, works, machine in self.some(20):
            for given in self.lists(works, 3):
                self.same(led(works, machine, list(given)), course_of(works, machine, given)[0])

    def first_breaks(self, works, machine):
        """The least number of rounds in which a promise is broken, over all courses; None if there is none.

        What a course brings hangs on its mode and its state: so a course that comes back is not followed on.
        """
        left, seen, many = [()], set(), 0
        while left:
            many += 1
            ahead, left = left, []
            for word in ahead:
                place = (works.mode_behind(word), machine.state_behind(word))
                if place in seen:
                    continue
                seen.add(place)
                for environment in environments(works.panel):
                    moment = machine.table_behind(word).answer(arrivals_of(works.panel, environment))
                    if not is_fine_round(works, place[0], environment, moment):
                        return many
                    left.append(word + (letter_left(works, environment, moment),))
        return None

    def test_breaking(self):
        found = []
        for _, works, machine in self.some(60):
            wanted = self.first_breaks(works, machine)
            found.append(wanted)
            told = breaking(works, machine)
            self.assertIs(keeps_for_ever(works, machine), wanted is None)
            if wanted is None:
                self.assertIsNone(told)
            else:
                self.assertEqual(len(told), wanted)
                _, kept = course_of(works, machine, told)
                self.same(kept, [True] * (wanted - 1) + [False])
        self.assertTrue({None, 1, 2, 3} <= set(found), set(found))

    def ways(self, works, machine):
        """For each (mode, state) that is met the pairs (letter, place behind)."""
        found, left = {}, [(0, 0)]
        while left:
            mode, state = place = left.pop()
            if place not in found:
                table, ends = machine.states[state]
                letters = {
                    letter_left(works, environment, table.answer(arrivals_of(works.panel, environment)))
                    for environment in environments(works.panel)
                }
                found[place] = [
                    (letter, (works.ways(mode)[letter], ends[machine.letters.index(letter)])) for letter in letters
                ]
                left += [end for _, end in found[place]]
        return found

    def rounds_round(self, ways, start):
        """All ways that come back to a start without coming to any place twice."""
        left = [(start, [], (start,))]
        while left:
            place, letters, met = left.pop()
            for letter, end in ways[place]:
                if end == start:
                    yield letters + [letter]
                elif end not in met:
                    left.append((end, letters + [letter], met + (end,)))

    def test_is_fine_with_and_stock_with(self):
        fine, stocks = [], []
        for seed, works, machine in self.some(60):
            chance = random.Random(seed)
            marks = {letter: chance.randint(0, 4) for letter in works.letters}
            gains = {letter: chance.choice([-9, -1, 0, 1, 2, 9]) for letter in works.letters}
            told = (is_fine_with(works, marks, machine), stock_with(works, gains, machine))
            if self.first_breaks(works, machine) is not None:
                self.same(told, (False, None))
                continue
            ways = self.ways(works, machine)
            cycles = [cycle for place in ways for cycle in self.rounds_round(ways, place)]
            wanted = all(max(marks[letter] for letter in cycle) % 2 == 0 for cycle in cycles)
            self.same(told, (wanted, self.least(ways, cycles, gains)))
            self.assertTrue(not wanted or 0 in fine_modes(works, marks))
            least = least_stock(works, gains, 0)
            self.assertTrue(told[1] is None or least <= told[1])
            fine.append(wanted)
            stocks.append(told[1])
        self.assertEqual(set(fine), {True, False})
        self.assertTrue({None, 0, 1} <= set(stocks), set(stocks))

    def least(self, ways, cycles, gains):
        """The most that is lost on any way that does not come to a place twice, if no cycle loses."""
        if any(sum(gains[letter] for letter in cycle) < 0 for cycle in cycles):
            return None
        most, left = 0, [((0, 0), 0, ((0, 0),))]
        while left:
            place, stock, met = left.pop()
            for letter, end in ways[place]:
                most = max(most, -(stock + gains[letter]))
                if end not in met:
                    left.append((end, stock + gains[letter], met + (end,)))
        return most

    def test_some_machine_reaches_the_least_stock(self):
        """The one that answers by the Tables of the larder."""
        tried = 0
        for seed in range(60):
            works = free_works(seed)
            chance = random.Random(seed)
            gains = {letter: chance.choice([-9, -1, 0, 1, 2, 9]) for letter in works.letters}
            told = larder(works, gains)
            if told is not None:
                tried += 1
                modes = list(told)
                states = []
                for mode in modes:
                    ends = {letter: to if to in told else mode for letter, to in works.ways(mode).items()}
                    states.append((told[mode][1], {letter: modes.index(to) for letter, to in ends.items()}))
                machine = Machine(1, works.panel.length, works.letters, states)
                self.same(stock_with(works, gains, machine), told[0][0])
        self.assertGreater(tried, 10)

    def test_all_marks_alike(self):
        for mark in range(5):
            told = is_fine_with(WORKS, dict.fromkeys(LETTERS, mark), machine_of(WORKS))
            self.assertIs(told, mark % 2 == 0)


class MachineOf(Case):
    def test_machine_of(self):
        tried = 0
        for seed in range(100):
            for works in (works_by(seed), free_works(seed)):
                machine = machine_of(works)
                self.assertIs(machine is not None, lasts(works))
                if machine is not None:
                    tried += 1
                    self.assertTrue(keeps_for_ever(works, machine))
                    self.assertTrue(machine == self.by_hand(works))
        self.assertGreater(tried, 60)

    def by_hand(self, works):
        modes, tables = list(good_modes(works)), strategy(works)
        states = []
        for mode in modes:
            ends = {letter: to if to in modes else mode for letter, to in works.ways(mode).items()}
            states.append((tables[mode], {letter: modes.index(to) for letter, to in ends.items()}))
        return least_machine(Machine(1, works.panel.length, works.letters, states))

    def test_none(self):
        self.assertIsNone(machine_of(LOST))
        self.same(len(machine_of(WORKS)), 1)
        self.assertIsNone(breaking(WORKS, machine_of(WORKS)))

    def test_no_machine_keeps_what_is_not_good(self):
        for seed in range(200):
            works = works_by(seed, lengths=(1,))
            if not lasts(works):
                self.assertFalse(keeps_for_ever(works, machine_by(works, seed)))


class Wrong(Case):
    def test_order(self):
        marks, gains = dict.fromkeys(LETTERS, 0), dict.fromkeys(LETTERS, 0)
        self.refused(BadWorks, machine_of, EXACT, part=None)
        others = (
            Machine(1, 3, LETTERS, [(constant(1, 3, None), LOOP)]),
            Machine(2, 2, LETTERS, [(constant(2, 2, None), LOOP)]),
            Machine(1, 2, ("y", "x", "other"), [(NEVER, LOOP)]),
            Machine(1, 2, ("x", "other"), [(NEVER, {"x": 0, "other": 0})]),
        )
        for function in (keeps_for_ever, breaking):
            self.refused(BadWorks, function, None, None, part=None)
            self.refused(BadMachine, function, WORKS, None, part=None)
            for other in others:
                self.refused(OtherMachines, function, WORKS, other)
        self.refused(BadWorks, led, None, None, None, part=None)
        self.refused(BadMachine, led, WORKS, None, None, part=None)
        self.refused(OtherMachines, led, WORKS, others[0], None)
        for function, right, error in ((is_fine_with, marks, BadMarks), (stock_with, gains, BadGains)):
            self.refused(BadWorks, function, None, None, None, part=None)
            self.refused(error, function, WORKS, None, None)
            self.refused(error, function, WORKS, {**right, "x": True}, others[0])
            self.refused(BadMachine, function, WORKS, right, WORKS, part=None)
            for other in others:
                self.refused(OtherMachines, function, WORKS, right, other)

    def test_environments(self):
        good = ((1,), (0,), 1)
        self.same(led(WORKS, CALM, ()), [])
        self.same(led(WORKS, CALM, (good, good)), [(good, None, "other")] * 2)
        for given in (None, {}, good, [None], [good, list(good)], [((1,), (0,), 2)], [((True,), (0,), 1)], "x"):
            self.refused(BadEnvironment, led, WORKS, CALM, given)

    def test_rungs_late(self):
        """With slip a machine breaks what it would keep without."""
        works = Works(EXACT, CASES, [("r", ALWAYS, ((), ("first", ("start",), 1, 1)))])
        machine = Machine(1, 2, LETTERS, [(ONE, LOOP)])
        self.same(len(breaking(works, machine)), 1)
        self.same(breaking(works, machine)[0][2], 1)
        self.assertIs(keeps_for_ever(works.with_panel(EXACT.with_slip(0)), machine), True)

    def test_all_options_are_tried(self):
        """Some machine keeps the works for ever exactly if mode 0 is good: all machines of one state."""
        for seed in range(60):
            works = works_by(seed, most_rules=1, lengths=(1,))
            if len(works) == 1:
                loop = dict.fromkeys(works.letters, 0)
                machines = [Machine(1, 1, works.letters, [(table, loop)]) for table in tables_of(1)]
                self.assertIs(any(keeps_for_ever(works, machine) for machine in machines), lasts(works))
                self.assertEqual(bool(Rounds(works).options[0]), lasts(works))

    def test_not_seen_inputs(self):
        panel = Panel(["a", "b"], 2, {"a": (0, 3), "b": (3, 3)}, 2)
        works = Works(panel, [], [("r", ALWAYS, ((), ("first", ("start",), 0, 2)))])
        machine = machine_of(works)
        self.same((len(machine), machine.size, keeps_for_ever(works, machine)), (1, 2, True))
        self.assertIs(keeps_for_ever(works.with_rule(STILL_TWO), machine), False)


STILL_TWO = ("two", ("empty",), ((("rings", "b"),), ("never",)))


if __name__ == "__main__":
    unittest.main()
