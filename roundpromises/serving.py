"""Sights compared for all works: whether all that can be had with one panel can be had with another."""

from roundpromises.errors import BadTranslator, OtherPanels, TooMany
from roundpromises.one import Task, is_kept
from roundpromises.promises import are_promises
from roundpromises.rows import is_not_before, is_time, times_of
from roundpromises.sights import MOST_SLIP, arrival, check_few_environments, check_panel
from roundpromises.tables import check_fits, check_table, known_table

LONGEST_PARTED = 6


def serves(one, other):
    """Tell whether who hears by one panel can believe to hear by the other one, in time."""
    check_panels(one, other)
    return one.slip <= other.slip and unread(one, other) is None


def are_even(one, other):
    """Tell whether each of two panels serves for the other one."""
    check_panels(one, other)
    return serves(one, other) and serves(other, one)


def translator(one, other):
    """For each input, the time to believe for each time at which one hears it; None if one does not serve."""
    if not serves(one, other):
        return None
    return {name: first_readings(one, other, at) for at, name in enumerate(one.inputs)}


def is_translator(one, other, thing):
    """Tell whether any value is a translator, and one is not later to ring than other."""
    check_panels(one, other)
    if one.slip > other.slip or not isinstance(thing, dict) or len(thing) != len(one.inputs):
        return False
    if not all([name in one.inputs for name in thing.keys()]):
        return False
    return all([are_readings(one, other, at, thing[name]) for at, name in enumerate(one.inputs)])


def translated(one, other, translator, table):
    """The Table that answers each row what a table answers to the row as the translator reads it."""
    if not is_translator(one, other, translator):
        raise BadTranslator("a translator has for each input a dict from what is heard to what is believed")
    check_table(table)
    check_fits(one, table)
    dicts = [translator[name] for name in one.inputs]
    told = table.answers()
    return known_table(table.size, table.length, {row: told[read_row(dicts, row)] for row in told})


def parting_promises(one, other):
    """Promises that can be kept with other and not with one; None if one serves for other."""
    check_panels(one, other)
    if one.length > LONGEST_PARTED:
        raise TooMany(LONGEST_PARTED)
    if one.slip > other.slip:
        return [((), ("first", ("start",), 0, other.slip))]
    found = unread(one, other)
    if found is None:
        return None
    at, heard = found
    return parted_by(one, at, heard)


def is_parting(one, other, thing):
    """Tell whether any value is promises that can be kept with other and not with one."""
    check_panels(one, other)
    check_few_environments(one)
    check_few_environments(other)
    if not are_promises(thing, one.inputs):
        return False
    return is_kept(Task(other, [], thing, [])) and not is_kept(Task(one, [], thing, []))


def check_panels(one, other):
    """Refuse what are no panels with the same inputs and the same length."""
    check_panel(one)
    check_panel(other)
    if one.inputs != other.inputs or one.length != other.length:
        raise OtherPanels("both panels have the same inputs and the same length")


def heard_from(panel, at, time):
    """The times at which an input, told by its index, may be heard that rings at a time."""
    least, greatest = panel.delays[at]
    return [arrival(time, delay, panel.length) for delay in range(least, greatest + 1)]


def sources(panel, at, heard):
    """The ascending list of the times from which an input may be heard at a time."""
    return [time for time in times_of(panel.length) if heard in heard_from(panel, at, time)]


def heard_times(panel, at):
    """The ascending list of the times at which an input may be heard."""
    return [time for time in times_of(panel.length) if sources(panel, at, time)]


def readings(one, other, at, heard):
    """The ascending list of the times that who hears an input by one may believe to hear by other."""
    times = sources(one, at, heard)
    return [
        believed
        for believed in times_of(one.length)
        if is_not_before(believed, heard) and all([believed in heard_from(other, at, time) for time in times])
    ]


def unread(one, other):
    """The first input with a time of one without a reading, and the last such time; None if there is none."""
    for at in range(len(one.inputs)):
        for heard in reversed(heard_times(one, at)):
            if not readings(one, other, at, heard):
                return at, heard
    return None


def first_readings(one, other, at):
    """The dict from all times at which one may hear an input to the first reading of each."""
    return {heard: readings(one, other, at, heard)[0] for heard in heard_times(one, at)}


def are_readings(one, other, at, thing):
    """Tell whether any value is a dict from all times at which one may hear an input to readings of them."""
    wanted = heard_times(one, at)
    if not isinstance(thing, dict) or len(thing) != len(wanted):
        return False
    if not all([is_time(heard, one.length) and heard in wanted for heard in thing.keys()]):
        return False
    return all([is_time(time, one.length) and time in readings(one, other, at, heard) for heard, time in thing.items()])


def read_row(dicts, row):
    """The row that is believed: a time that is no key of its input's dict is read as never."""
    return tuple([reading.get(time) for reading, time in zip(dicts, row)])


def parted_by(one, at, heard):
    """The promises that a time without a reading gives away.

    Heard at this time, one cannot tell the first of its sources from the last one. Other can: it has surely
    heard the first one before it may hear the last one, and before the end of the round. (Of the times
    without a reading the last one is taken: it is never whenever that is one of them, and otherwise other
    does hear its first source by then.) So the first source forbids to ring, the last one bids it.
    """
    name = one.inputs[at]
    times = sources(one, at, heard)
    forbids = (("gap", name, "start", -times[0]),)
    bids = (("silent", name),) if heard is None else (("gap", "start", name, times[-1]),)
    return [(forbids, ("never",)), (bids, ("first", ("start",), 0, one.length + MOST_SLIP))]
