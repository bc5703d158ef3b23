"""One round in each mode of a works: what its Tables can do, some letters barred.

Letters are told by the bits of a number, in the order of the works' letters. What was worked out once for a works
is kept with it, as the same rounds are asked about again and again.
"""

from roundpromises.bits import ALL_RINGINGS, allowed_bits, letter_bits, ringing_bit, time_bit, wrong_times
from roundpromises.looks import earliest_table, good_times, heard_wrongs, lay_of
from roundpromises.one import Task, is_quarrel, quarrel
from roundpromises.tables import Table


class Modes:
    """What is known of the rounds of a works: leaving are the ringings that leave each letter, row by row."""

    def __init__(self, works):
        inputs = works.panel.inputs
        times = [dict(zip(inputs, row)) for row in lay_of(works.panel).rows]
        self.leaving = [letter_bits(works.cases, told) for told in times]
        self.asking = [[allowed_bits((promise,), told) for told in times] for _, _, promise in works.rules]
        self.allowed = {}
        self.goods = {}
        self.tasks = {}
        self.lefts = {}
        self.rung_letters = {}
        self.heard_letters = None
        self.odds = {}
        self.strange = {}
        self.ranks = None


def modes_of(works):
    """The Modes of a works, worked out once."""
    if works._modes is None:
        works._modes = Modes(works)
    return works._modes


def promises_in(works, mode):
    """The promises of the active rules of a mode."""
    return [works.rules[at][2] for at in works._active_rules[mode]]


def allowed_rings(works, mode):
    """For each row the ringings that the promises of the active rules of a mode allow."""
    modes = modes_of(works)
    if mode not in modes.allowed:
        modes.allowed[mode] = rings_allowed_by(works, works._active_rules[mode])
    return modes.allowed[mode]


def rings_allowed_by(works, rules):
    """For each row the ringings that the promises of some rules, told by their indexes, allow."""
    modes = modes_of(works)
    found = [ALL_RINGINGS for _ in modes.leaving]
    for rule in rules:
        found = [rings & more for rings, more in zip(found, modes.asking[rule])]
    return found


def right_rings(works, mode, barred):
    """For each row the ringings that are right in a mode with some letters barred."""
    found = []
    for rings, leaving in zip(allowed_rings(works, mode), modes_of(works).leaving):
        for at, leaves in enumerate(leaving):
            if barred >> at & 1:
                rings = rings & ~leaves
        found.append(rings)
    return found


def wrongs_of(panel, rings):
    """For each row the times that are wrong there with some slip, given the ringings that are right."""
    told = {bits: wrong_times(bits, panel.length, panel.slip) for bits in sorted(set(rings))}
    return [told[bits] for bits in rings]


def goods_of(works, mode, barred):
    """The good times of each row of arrivals in the Task of a mode with some letters barred."""
    modes = modes_of(works)
    if (mode, barred) not in modes.goods:
        lay = lay_of(works.panel)
        wrongs = wrongs_of(works.panel, right_rings(works, mode, barred))
        modes.goods[(mode, barred)] = good_times(lay, heard_wrongs(lay, wrongs))
    return modes.goods[(mode, barred)]


def can_bar(works, mode, barred):
    """Tell whether some Table keeps the Task of a mode with some letters barred."""
    return 0 not in goods_of(works, mode, barred)


def table_with(works, mode, barred):
    """The earliest Table that keeps the Task of a mode with some letters barred, where some does."""
    return earliest_table(lay_of(works.panel), goods_of(works, mode, barred))


def is_table_with(works, mode, barred, thing):
    """Tell whether any value is a Table that keeps the Task of a mode with some letters barred."""
    if not is_table_for(works, thing):
        return False
    lay = lay_of(works.panel)
    answers = thing.answers()
    goods = goods_of(works, mode, barred)
    return all([good & time_bit(answers[row], lay.length) != 0 for good, row in zip(goods, lay.rows)])


def is_table_for(works, thing):
    """Tell whether any value is a Table of the size and the length of a works' panel."""
    panel = works.panel
    return isinstance(thing, Table) and thing.size == len(panel.inputs) and thing.length == panel.length


def task_with(works, mode, barred):
    """The Task of a mode with some letters barred."""
    tasks = modes_of(works).tasks
    if (mode, barred) not in tasks:
        letters = [letter for at, letter in enumerate(works.letters) if barred >> at & 1]
        tasks[(mode, barred)] = Task(works.panel, works.cases, promises_in(works, mode), letters)
    return tasks[(mode, barred)]


def quarrel_with(works, mode, barred):
    """A quarrel of the Task of a mode with some letters barred, where no Table keeps it."""
    return quarrel(task_with(works, mode, barred))


def is_quarrel_with(works, mode, barred, thing):
    """Tell whether any value is a quarrel of the Task of a mode with some letters barred."""
    return is_quarrel(task_with(works, mode, barred), thing)


def letters_where(flags):
    """The bits of the letters for which a flag, in their order, is True."""
    return sum([1 << at for at, flag in enumerate(flags) if flag])


def letter_at(works, environment, moment):
    """Which letter, told by its index, a round leaves in which the output is rung at a time."""
    row, _, slip = environment
    bit = ringing_bit(moment, slip)
    leaving = modes_of(works).leaving[lay_of(works.panel).places[row]]
    found = [at for at, leaves in enumerate(leaving) if leaves & bit]
    return found[0]


def is_allowed_at(works, mode, environment, moment):
    """Tell whether the promises of the active rules of a mode allow the output to be rung at a time."""
    row, _, slip = environment
    return allowed_rings(works, mode)[lay_of(works.panel).places[row]] & ringing_bit(moment, slip) != 0
