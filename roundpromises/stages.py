"""Stages: how a plant stands behind its deeds, and what can still be kept from there.

A Task tells what shall be kept; a row *goes on* if it looks, until the present moment, like what arrived so far.
"""

from roundpromises.bits import all_times, ringing_bit, time_bit
from roundpromises.ever import lost_letters, ranks_of
from roundpromises.looks import is_strife_from, lay_of
from roundpromises.modes import allowed_rings, letters_where, task_with
from roundpromises.one import environment_against, is_right_in, spoiling
from roundpromises.rows import cut, times_of
from roundpromises.terms import letter_in
from roundpromises.works import led_by


class Before:
    """What hangs on the rounds that are over.

    Now is the works as it is now, place its mode; word are the letters so far, pages what the book tells of each
    round, lapses the indexes of the rounds in which a promise was broken.
    """

    def __init__(self, now, word, pages, lapses):
        self.now = now
        self.word = word
        self.place = led_by(now._ways, now.letters, word)
        self.pages = pages
        self.lapses = lapses


class Stage:
    """A moment of a round: what arrived so far, and the moment at which the output was rung, or None."""

    def __init__(self, before, clock, arrived, rang):
        self.before = before
        self.clock = clock
        self.arrived = arrived
        self.rang = rang


def begun(before):
    """The Stage at the beginning of a round."""
    return Stage(before, 0, tuple([None for _ in before.now.panel.inputs]), None)


def is_begun(stage):
    """Tell whether a round is at moment 0 with nothing heard and the output not rung."""
    return stage.clock == 0 and stage.rang is None and stage.arrived == tuple([None for _ in stage.arrived])


def ruled(stage, works):
    """The Stage with another works from now on."""
    before = stage.before
    return begun(Before(works, before.word, before.pages, before.lapses))


def heard_more(stage, at):
    """The Stage with an input, told by its index, that arrives at the present moment."""
    arrived = stage.arrived[:at] + (stage.clock,) + stage.arrived[at + 1 :]
    return Stage(stage.before, stage.clock, arrived, stage.rang)


def rung_now(stage):
    """The Stage with the output rung at the present moment."""
    return Stage(stage.before, stage.clock, stage.arrived, stage.clock)


def ticked(stage):
    """The Stage at the next moment."""
    return Stage(stage.before, stage.clock + 1, stage.arrived, stage.rang)


def closed(stage, row, rung):
    """The Stage behind the round, of which the book tells a row of true times and when the output rang."""
    before = stage.before
    works = before.now
    times = dict(zip(works.panel.inputs, row))
    times["out"] = rung
    allowed = allowed_rings(works, before.place)[lay_of(works.panel).places[row]]
    lapses = before.lapses
    if not allowed & ringing_bit(rung, 0):
        lapses = lapses + (len(before.word),)
    word = before.word + (letter_in(works.cases, times),)
    return begun(Before(works, word, before.pages + ((row, rung),), lapses))


def can_arrive(stage, row):
    """Tell whether with some delays just what arrived so far are the arrivals of a row."""
    lay = lay_of(stage.before.now.panel)
    return lay.places[stage.arrived] in lay.brought[lay.places[row]]


def can_ring(stage, rung):
    """Tell whether the output may have rung then, as it was rung, or was not, in this round."""
    if stage.rang is None or rung is None:
        return stage.rang is None and rung is None
    return 0 <= rung - stage.rang <= stage.before.now.panel.slip


def kept_at(stage):
    """The Task of the mode with just all letters barred that lead to modes that are not good."""
    before = stage.before
    return task_with(before.now, before.place, lost_letters(before.now, before.place))


def kept_above(stage, level):
    """The Task of the mode with just the letters barred that lead to modes with ranks less than a level."""
    before = stage.before
    ranks = [ranks_of(before.now)[to] for to in before.now._ways[before.place]]
    barred = letters_where([found is not None and found < level for found in ranks])
    return task_with(before.now, before.place, barred)


def going_on(stage):
    """The places of the rows that go on."""
    lay = lay_of(stage.before.now.panel)
    bit = time_bit(stage.clock, lay.length)
    return [at for at, times in lay.members[lay.places[stage.arrived]] if times & bit]


def may_ring(task, stage):
    """Tell whether the present moment is good for what arrived so far."""
    lay = lay_of(task.panel)
    return task._goods[lay.places[stage.arrived]] & time_bit(stage.clock, lay.length) != 0


def may_wait(task, stage):
    """Tell whether each row that goes on has a good time that is later than the present moment."""
    later = later_times(stage)
    return all([task._goods[at] & later != 0 for at in going_on(stage)])


def later_times(stage):
    """The bits of the times that are later than the present moment."""
    return all_times(stage.before.now.panel.length) & ~((2 << stage.clock) - 1)


def is_sure_by(task, stage):
    """Tell whether a Task can be kept from a Stage on."""
    if stage.rang is None:
        return may_ring(task, stage) or may_wait(task, stage)
    return wrong_rows(task, stage) == []


def wrong_rows(task, stage):
    """The places of the rows that go on and are the arrivals of some environment in which the rung moment is wrong."""
    bit = time_bit(stage.rang, task.panel.length)
    return [at for at in going_on(stage) if task._heard_wrongs[at] & bit]


def found_threat(task, stage):
    """A pair of arrivals and, for each time from the present moment on, or for the rung one, an environment against it.

    The Task cannot be kept from the Stage on.
    """
    lay = lay_of(task.panel)
    if stage.rang is not None:
        wrong = wrong_rows(task, stage)
        bit = time_bit(stage.rang, lay.length)
        return stage.arrived, {stage.rang: environment_against(task, wrong[0], bit, stage.rang)}
    later = later_times(stage)
    lost = [at for at in going_on(stage) if not task._goods[at] & later]
    times = times_from(stage)
    return lay.rows[lost[0]], {time: spoiling(task, lost[0], time_bit(time, lay.length), time) for time in times}


def times_from(stage):
    """The list of the times from the present moment on."""
    times = times_of(stage.before.now.panel.length)
    return times[stage.clock :]


def is_threat_to(task, stage, thing):
    """Tell whether any value is a threat to who shall keep a Task from a Stage on."""

    def is_wrong(time, environment):
        """Tell whether a time is not right in an environment."""
        return not is_right_in(task, environment, time)

    def is_alike(arrivals, time, heard):
        """Tell whether the arrivals go on, and what is heard as well, or looks like them until a time."""
        if cut(arrivals, stage.clock) != stage.arrived:
            return False
        if stage.rang is not None:
            return cut(heard, stage.clock) == stage.arrived
        return cut(heard, time) == cut(arrivals, time)

    times = times_from(stage) if stage.rang is None else [stage.rang]
    return is_strife_from(task.panel, thing, times, is_alike, is_wrong)
