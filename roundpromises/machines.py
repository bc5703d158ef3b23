"""Machines: controllers with a memory, compared, made as small as can be, and judged by works."""

from roundpromises.again import check_marks
from roundpromises.checks import is_list, is_tuple_of, is_within
from roundpromises.courses import (
    course_to_break,
    first_broken_pair,
    is_odd_cycle_met,
    least_needs,
    met_pairs,
)
from roundpromises.errors import BadEnvironment, BadMachine, OtherMachines
from roundpromises.ever import strategy
from roundpromises.forms import are_letters
from roundpromises.modes import letter_at
from roundpromises.readers import least_reader, numbered, paired, shortest_words
from roundpromises.rows import LONGEST, MOST_INPUTS
from roundpromises.sights import arrivals_in, is_environment_of
from roundpromises.stock import check_gains, gains_of
from roundpromises.tables import Table
from roundpromises.works import check_word_of, check_works, led_by

MOST_STATES = 24


class Machine:
    """Tables to answer by, and ways between them by the letters of the rounds."""

    def __init__(self, size, length, letters, states):
        if not is_within(size, 1, MOST_INPUTS):
            raise BadMachine("size")
        if not is_within(length, 1, LONGEST):
            raise BadMachine("length")
        if not are_letters(letters):
            raise BadMachine("letters")
        if not is_list(states) or not 1 <= len(states) <= MOST_STATES:
            raise BadMachine("states")
        if not all([is_state(state, size, length, letters, len(states)) for state in states]):
            raise BadMachine("states")
        self.size = size
        self.length = length
        self.letters = letters
        self.states = tuple([(table, tuple([ways[letter] for letter in letters])) for table, ways in states])

    def __eq__(self, other):
        return (
            isinstance(other, Machine)
            and self.size == other.size
            and self.length == other.length
            and self.letters == other.letters
            and self.states == other.states
        )

    def __len__(self):
        return len(self.states)

    def state_behind(self, word):
        """The index of the state behind a word."""
        check_word_of(word, self.letters)
        return led_by(ways_of(self), self.letters, word)

    def table_behind(self, word):
        """The Table that answers behind a word."""
        table, _ = self.states[self.state_behind(word)]
        return table


def machines_alike(one, other):
    """Tell whether both machines have equal Tables behind every word."""
    return parting_course(one, other) is None


def parting_course(one, other):
    """The first of the shortest words behind which both have not equal Tables; None if there is none."""
    check_machine(one)
    check_machine(other)
    if one.size != other.size or one.length != other.length or one.letters != other.letters:
        raise OtherMachines("both machines have one size, one length and the same letters")
    found, ways = paired((None, ways_of(one)), (None, ways_of(other)))
    words = shortest_words(ways, one.letters)
    for at, (state, other_state) in enumerate(found):
        if one.states[state][0] != other.states[other_state][0]:
            return words[at]
    return None


def least_machine(machine):
    """The Machine, alike, with as few states as can be, numbered by their shortest words."""
    check_machine(machine)
    marks = numbered([tuple(table.answers().values()) for table, _ in machine.states])
    found, ways = least_reader(marks, ways_of(machine))
    states = [(machine.states[marks.index(mark)][0], behind) for mark, behind in zip(found, ways)]
    return machine_with(machine.size, machine.length, machine.letters, states)


def led(works, machine, environments):
    """The course with these environments: triples of an environment, the answer and the round's letter."""
    check_pair(works, machine)
    if not is_list(environments) or not all([is_environment_of(works.panel, thing) for thing in environments]):
        raise BadEnvironment("environments are a list of environments of the works' panel")
    found = []
    state = 0
    for environment in environments:
        table, ways = machine.states[state]
        moment = table.answer(arrivals_in(works.panel, environment))
        letter = letter_at(works, environment, moment)
        found.append((environment, moment, works.letters[letter]))
        state = ways[letter]
    return found


def keeps_for_ever(works, machine):
    """Tell whether each round of every course keeps the promises of the active rules."""
    check_pair(works, machine)
    return is_kept_for_ever(works, machine, met_by(works, machine))


def breaking(works, machine):
    """A list of environments, as few as can be, the last of which breaks a promise; None if there is none."""
    check_pair(works, machine)
    states = states_of(machine)
    met = met_pairs(works, states)
    pair = first_broken_pair(works, states, met)
    if pair is None:
        return None
    return [environment for environment, _ in course_to_break(works, states, met, pair)]


def machine_of(works):
    """The least Machine that answers by the strategy of a works; None if mode 0 is not good."""
    check_works(works)
    tables = strategy(works)
    if tables is None:
        return None
    modes = list(tables)
    states = []
    for mode in modes:
        ends = [to if to in tables else mode for to in works._ways[mode]]
        states.append((tables[mode], [modes.index(to) for to in ends]))
    panel = works.panel
    return least_machine(machine_with(len(panel.inputs), panel.length, works.letters, states))


def is_fine_with(works, marks, machine):
    """Tell whether each course without end is fine."""
    check_works(works)
    check_marks(works, marks)
    check_pair(works, machine)
    met = met_by(works, machine)
    if not is_kept_for_ever(works, machine, met):
        return False
    return not is_odd_cycle_met(met, [marks[letter] for letter in works.letters])


def stock_with(works, gains, machine):
    """The least stock with which no course breaks a promise or goes below 0; None if there is none."""
    check_works(works)
    check_gains(works, gains)
    check_pair(works, machine)
    met = met_by(works, machine)
    needs = least_needs(met, gains_of(works, gains)) if is_kept_for_ever(works, machine, met) else None
    return None if needs is None else needs[(0, 0)]


def check_machine(machine):
    """Refuse what is no Machine."""
    if not isinstance(machine, Machine):
        raise BadMachine(None)


def check_pair(works, machine):
    """Refuse what are no Works and a Machine of its size, its length and its letters."""
    check_works(works)
    check_machine(machine)
    panel = works.panel
    if machine.size != len(panel.inputs) or machine.length != panel.length or machine.letters != works.letters:
        raise OtherMachines("the machine has the size, the length and the letters of the works")


def is_state(thing, size, length, letters, many):
    """Tell whether any value is a pair of a Table and a dict from just the letters to indexes below a number."""
    if not is_tuple_of(thing, 2) or not isinstance(thing[0], Table) or not isinstance(thing[1], dict):
        return False
    table, ways = thing
    if table.size != size or table.length != length or len(ways) != len(letters):
        return False
    return all([letter in letters and is_within(to, 0, many - 1) for letter, to in ways.items()])


def ways_of(machine):
    """For each state the indexes of the states behind one letter more, in the order of the letters."""
    return [ways for _, ways in machine.states]


def states_of(machine):
    """The states of a Machine as courses.py tells them."""
    return [([(time,) for time in table.answers().values()], ways) for table, ways in machine.states]


def met_by(works, machine):
    """The pairs of a mode and a state that are met, as courses.py tells them."""
    return met_pairs(works, states_of(machine))


def machine_with(size, length, letters, states):
    """The Machine with these states: pairs of a Table and the indexes behind the letters, in their order."""
    return Machine(size, length, letters, [(table, dict(zip(letters, ways))) for table, ways in states])


def is_kept_for_ever(works, machine, met):
    """What keeps_for_ever tells, given the pairs that are met."""
    return first_broken_pair(works, states_of(machine), met) is None
