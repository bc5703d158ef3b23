"""Looks: what can be answered to each row of arrivals, given which times are wrong where.

Rows are told by their places in the list of all rows of a panel's size and length, times as in bits.py. A *look*
is a time and the row that is heard until then; a time that is wrong in some environment *spoils* the look that
this environment has until then. A row has as its good times those whose looks it does not find spoiled.
"""

from roundpromises.bits import all_times, time_bit, times_in
from roundpromises.checks import is_tuple_of
from roundpromises.rows import cut, is_row_of, is_time, rows, times_of
from roundpromises.sights import arrivals_in, is_environment_of
from roundpromises.tables import known_table


class Lay:
    """What hangs on a panel alone: all rows, their looks, and which row of true times can arrive as which.

    For each row, its parts are the pairs of the place of a row that it is cut to and the bits of the times until
    which it is; for each cut row, its members are the pairs of a row with such a part and these bits; brought are
    the arrivals that a row can have, and bringers the rows with which some environment has these arrivals.
    """

    def __init__(self, panel):
        self.size = len(panel.inputs)
        self.length = panel.length
        self.times = {time_bit(time, panel.length): time for time in times_of(panel.length)}
        self.told = {}
        self.rows = rows(self.size, panel.length)
        self.places = {row: at for at, row in enumerate(self.rows)}
        self.parts = [parts_of(row, panel.length, self.places) for row in self.rows]
        self.brought = brought_places(panel)
        self.members = [[] for _ in self.rows]
        self.bringers = [[] for _ in self.rows]
        for at, parts in enumerate(self.parts):
            for place, times in parts:
                self.members[place].append((at, times))
        for at, places in enumerate(self.brought):
            for place in places:
                self.bringers[place].append(at)


def lay_of(panel):
    """The Lay of a panel, worked out once."""
    if panel._looks is None:
        panel._looks = Lay(panel)
    return panel._looks


def parts_of(row, length, places):
    """The parts of a row, in the order of their times."""
    starts = sorted(set([0] + [time for time in row if time is not None]))
    ends = starts[1:] + [length + 2]
    return [(places[cut(row, start)], (1 << end) - (1 << start)) for start, end in zip(starts, ends)]


def brought_places(panel):
    """For each row of true times the list of the places of the arrivals that it can have."""
    many = panel.length + 2
    found = [[0]]
    for least, greatest in panel.delays:
        heard = [heard_at(time, least, greatest, panel.length) for time in range(many)]
        found = [[place * many + at for place in places for at in ends] for places in found for ends in heard]
    return found


def heard_at(time, least, greatest, length):
    """The times at which one input may be heard, with length + 1 for never, also for its own time."""
    first = min(time + least, length + 1)
    return list(range(first, min(time + greatest, length + 1) + 1))


def heard_wrongs(lay, wrongs):
    """For each row of arrivals the times that are wrong in some environment that brings it.

    Wrongs are, for each row of true times, the times that are wrong in some environment with it, with the same
    times for whatever delays.
    """
    found = [0 for _ in lay.rows]
    for wrong, places in zip(wrongs, lay.brought):
        if wrong:
            for place in places:
                found[place] = found[place] | wrong
    return found


def good_times(lay, wrongs):
    """For each row of arrivals its good times, given the times that are wrong in environments that bring each."""
    spoiled = [0 for _ in lay.rows]
    for wrong, parts in zip(wrongs, lay.parts):
        if wrong:
            for place, times in parts:
                spoiled[place] = spoiled[place] | wrong & times
    every = all_times(lay.length)
    found = []
    for parts in lay.parts:
        bad = 0
        for place, times in parts:
            bad = bad | spoiled[place] & times
        found.append(every & ~bad)
    return found


def told_times(lay, bits):
    """The ascending tuple of the times whose bits a number has, worked out once."""
    if bits not in lay.told:
        lay.told[bits] = times_in(bits, lay.length)
    return lay.told[bits]


def last_times(lay, goods):
    """For each row the times until which it is the look of some row that has its last good time there."""
    found = [0 for _ in lay.rows]
    for good, parts in zip(goods, lay.parts):
        last = 1 << (good.bit_length() - 1)
        for place, times in parts:
            found[place] = found[place] | last & times
    return found


def latest_time(lay, goods, lasts, at):
    """The first good time of a row at which some row that looks alike has its last one."""
    found = 0
    for place, times in lay.parts[at]:
        found = found | goods[at] & lasts[place] & times
    return lowest(found)


def lowest(bits):
    """The lowest bit of a number that has one, as a number of this bit alone."""
    return bits & -bits


def table_of(lay, answers):
    """The Table with these answers, each told by its bit, to the rows in their order."""
    return known_table(lay.size, lay.length, {row: lay.times[answer] for row, answer in zip(lay.rows, answers)})


def earliest_table(lay, goods):
    """The Table that answers each row with its least good time."""
    return table_of(lay, [lowest(good) for good in goods])


def look_until(lay, at, bit):
    """The place of the row to which a row is cut at the time of a bit."""
    found = [place for place, times in lay.parts[at] if times & bit]
    return found[0]


def is_answered_rightly(lay, wrongs, answers):
    """Tell whether no answer, a dict from rows, is a time that is wrong in an environment that brings the row."""
    return not any([wrong & time_bit(answers[row], lay.length) for wrong, row in zip(wrongs, lay.rows)])


def strife_of(panel, at, every, is_wrong):
    """A pair of a row without good times and, for each time, an environment that spoils its look until then.

    Every is a list of environments, among which they are; is_wrong tells whether a time is wrong in one.
    """
    lay = lay_of(panel)
    ends = dict(lay.parts[at])
    found = {}
    for environment in every:
        if len(found) == len(lay.times):
            break
        for end, times in lay.parts[lay.places[arrivals_in(panel, environment)]]:
            for time in told_times(lay, times & ends.get(end, 0)):
                if time not in found and is_wrong(time, environment):
                    found[time] = environment
    return lay.rows[at], {time: found[time] for time in times_of(lay.length)}


def is_strife(panel, thing, speaks):
    """Tell whether any value is a pair of a row of arrivals and a dict from just all times to environments.

    Those of each time look like these arrivals until then, and speak, which is asked of both, against the time.
    """

    def is_alike(arrivals, time, heard):
        """Tell whether what is heard looks like the arrivals until a time."""
        return cut(heard, time) == cut(arrivals, time)

    return is_strife_from(panel, thing, times_of(panel.length), is_alike, speaks)


def is_strife_from(panel, thing, times, is_alike, speaks):
    """Tell whether any value is a pair of a row of arrivals and a dict from just these times to environments.

    Is_alike tells of the arrivals, a time and what is heard in its environment whether they look as they must.
    """
    if not is_tuple_of(thing, 2) or not is_row_of(thing[0], len(panel.inputs), panel.length):
        return False
    arrivals, answers = thing
    if not isinstance(answers, dict) or len(answers) != len(times):
        return False
    if not all([is_time(time, panel.length) and time in times for time in answers.keys()]):
        return False
    for time, environment in answers.items():
        if not is_environment_of(panel, environment):
            return False
        if not is_alike(arrivals, time, arrivals_in(panel, environment)) or not speaks(time, environment):
            return False
    return True
