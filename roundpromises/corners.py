"""Corners: with which delays, with which inputs seen, and with which slip all can be kept for ever."""

from roundpromises.checks import is_tuple_of, is_within
from roundpromises.errors import BadDelays, TooMany
from roundpromises.ever import is_lasting
from roundpromises.sights import MOST_SLIP, check_few_environments
from roundpromises.works import check_works

MOST_DELAYS = 100


def with_delays(works, delays):
    """The Works whose panel has just these delays, as least and as greatest ones."""
    check_works(works)
    if not are_known_delays(works.panel, delays):
        raise BadDelays("delays are a tuple of one number from 0 to length + 1 for each input")
    return delayed(works, delays)


def greatest_delays(works):
    """The ascending list of the delays that do while none of them can be greater."""
    check_few_delays(works)
    done = delays_that_do(works)
    last = works.panel.length + 1
    return [delays for delays in done if done[delays] and not any([done[more] for more in moved(delays, 1, last)])]


def least_delays(works):
    """The ascending list of the delays that do not while any of them less would."""
    check_few_delays(works)
    done = delays_that_do(works)
    last = works.panel.length + 1
    return [delays for delays in done if not done[delays] and all([done[less] for less in moved(delays, -1, last)])]


def least_seen(works):
    """The ascending list of the least lots of inputs that must be seen, at once, with all others not at all."""
    check_few_delays(works)
    inputs = works.panel.inputs
    lots = [()]
    for name in inputs:
        lots = lots + [lot + (name,) for lot in lots]
    doing = [lot for lot in lots if is_lasting(delayed(works, seen_delays(works.panel, lot)))]
    return sorted([lot for lot in doing if not any([less in doing for less in one_left_out(lot)])])


def greatest_slip(works):
    """The greatest slip with which mode 0 is good; None if there is none."""
    check_works(works)
    check_few_environments(works.panel.with_slip(MOST_SLIP))
    found = None
    for slip in range(MOST_SLIP + 1):
        if is_lasting(works.with_panel(works.panel.with_slip(slip))):
            found = slip
    return found


def check_few_delays(works):
    """Refuse what is no Works, then one with more delays than can be tried."""
    check_works(works)
    check_few_known_delays(works.panel)


def check_few_known_delays(panel):
    """Refuse a panel with more delays, from 0 to length + 1 for each input, than can be tried."""
    many = 1
    for _ in panel.inputs:
        many = many * (panel.length + 2)
    if many > MOST_DELAYS:
        raise TooMany(MOST_DELAYS)


def all_known_delays(panel):
    """The ascending list of all delays, from 0 to length + 1 for each input."""
    found = [()]
    for _ in panel.inputs:
        found = [delays + (delay,) for delays in found for delay in range(panel.length + 2)]
    return found


def are_known_delays(panel, thing):
    """Tell whether any value is a tuple of one number from 0 to length + 1 for each input."""
    if not is_tuple_of(thing, len(panel.inputs)):
        return False
    return all([is_within(delay, 0, panel.length + 1) for delay in thing])


def delayed(works, delays):
    """What with_delays tells, of values that are known to be right."""
    sight = {name: (delay, delay) for name, delay in zip(works.panel.inputs, delays)}
    return works.with_panel(works.panel.with_sight(sight))


def delays_that_do(works):
    """The dict from all delays, ascending, to whether they do."""
    done = {}
    for delays in all_known_delays(works.panel):
        # Lesser delays do if greater ones do; so nothing need be tried behind ones that do not.
        is_open = all([done[less] for less in moved(delays, -1, works.panel.length + 1)])
        done[delays] = is_open and is_lasting(delayed(works, delays))
    return done


def moved(delays, step, last):
    """The delays with one of them changed by a step, from 0 to the last one."""
    found = []
    for at, delay in enumerate(delays):
        if 0 <= delay + step <= last:
            found.append(delays[:at] + (delay + step,) + delays[at + 1 :])
    return found


def seen_delays(panel, lot):
    """The delays with which the inputs of a lot are seen at once, and all others not at all."""
    return tuple([0 if name in lot else panel.length + 1 for name in panel.inputs])


def one_left_out(lot):
    """The list of the lots with one name less."""
    return [lot[:at] + lot[at + 1 :] for at in range(len(lot))]
