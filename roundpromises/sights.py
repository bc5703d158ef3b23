"""Panels: which inputs a controller has, and how late it hears of them."""

from roundpromises.checks import are_different, is_list, is_name, is_tuple_of, is_within
from roundpromises.errors import BadEnvironment, BadPanel, BadRow, TooMany
from roundpromises.rows import LONGEST, MOST_INPUTS, check_length, check_moment, check_row, cut, is_row_of, rows

MOST_ENVIRONMENTS = 2000
MOST_SLIP = 2


class Panel:
    """The inputs of a controller, the length of its rounds, its delays and its slip."""

    def __init__(self, inputs, length, sight, slip):
        if not are_panel_inputs(inputs):
            raise BadPanel("inputs")
        if not is_within(length, 1, LONGEST):
            raise BadPanel("length")
        names = tuple(sorted(inputs))
        if sight is not None and not is_sight(sight, names, length):
            raise BadPanel("sight")
        if not is_within(slip, 0, MOST_SLIP):
            raise BadPanel("slip")
        self.inputs = names
        self.length = length
        self.delays = tuple([(0, 0) if sight is None else sight[name] for name in names])
        self.slip = slip
        # What looks.py works out for this panel once, when it is asked for.
        self._looks = None

    def __eq__(self, other):
        return (
            isinstance(other, Panel)
            and self.inputs == other.inputs
            and self.length == other.length
            and self.delays == other.delays
            and self.slip == other.slip
        )

    def with_sight(self, sight):
        """The Panel with another sight."""
        return Panel(self.inputs, self.length, sight, self.slip)

    def with_slip(self, slip):
        """The Panel with another slip."""
        return Panel(self.inputs, self.length, dict(zip(self.inputs, self.delays)), slip)


def is_environment(panel, thing):
    """Tell whether any value is an environment of a panel."""
    check_panel(panel)
    return is_environment_of(panel, thing)


def arrivals_of(panel, environment):
    """The row of the times at which the inputs arrive in an environment."""
    check_panel(panel)
    check_environment(panel, environment)
    return arrivals_in(panel, environment)


def many_environments(panel):
    """How many environments a panel has."""
    check_panel(panel)
    times = panel.length + 2
    many = panel.slip + 1
    for least, greatest in panel.delays:
        many = many * times * (greatest - least + 1)
    return many


def environments(panel):
    """The ascending list of all environments of a panel."""
    check_panel(panel)
    check_few_environments(panel)
    found = []
    for row in rows(len(panel.inputs), panel.length):
        for delays in all_delays(panel):
            found += [(row, delays, slip) for slip in range(panel.slip + 1)]
    return found


def look_alike(one, other, length, moment):
    """Tell whether two rows of one size look alike until a time."""
    check_length(length)
    check_row(one, length)
    if not is_row_of(other, len(one), length):
        raise BadRow("the other row is one of the same size and length")
    check_moment(moment, length)
    return cut(one, moment) == cut(other, moment)


def check_panel(panel):
    """Refuse what is no Panel."""
    if not isinstance(panel, Panel):
        raise BadPanel(None)


def check_environment(panel, environment):
    """Refuse what is no environment of a panel."""
    if not is_environment_of(panel, environment):
        raise BadEnvironment("an environment is a triple of a row, delays and a slip of the panel")


def check_few_environments(panel):
    """Refuse a panel with more environments than can be listed."""
    if many_environments(panel) > MOST_ENVIRONMENTS:
        raise TooMany(MOST_ENVIRONMENTS)


def are_panel_inputs(thing):
    """Tell whether any value is a list of 1 to 3 different names."""
    if not is_list(thing) or not 1 <= len(thing) <= MOST_INPUTS:
        return False
    return all([is_name(name) for name in thing]) and are_different(thing)


def is_sight(thing, names, length):
    """Tell whether any value is a dict from just these names to pairs of delays."""
    if not isinstance(thing, dict) or len(thing) != len(names):
        return False
    return all([name in names and is_delay_pair(pair, length) for name, pair in thing.items()])


def is_delay_pair(thing, length):
    """Tell whether any value is a pair of a least and a greatest delay."""
    if not is_tuple_of(thing, 2) or not all([is_within(delay, 0, length + 1) for delay in thing]):
        return False
    return thing[0] <= thing[1]


def is_environment_of(panel, thing):
    """What is_environment tells, of what is known to be a Panel."""
    if not is_tuple_of(thing, 3) or not is_row_of(thing[0], len(panel.inputs), panel.length):
        return False
    return are_delays(panel, thing[1]) and is_within(thing[2], 0, panel.slip)


def are_delays(panel, thing):
    """Tell whether any value is a tuple of one number for each input, within its pair."""
    if not is_tuple_of(thing, len(panel.inputs)):
        return False
    return all([is_within(delay, least, greatest) for delay, (least, greatest) in zip(thing, panel.delays)])


def all_delays(panel):
    """The ascending list of all delays of a panel."""
    found = [()]
    for least, greatest in panel.delays:
        found = [delays + (delay,) for delays in found for delay in range(least, greatest + 1)]
    return found


def arrival(time, delay, length):
    """When an input arrives: behind the end of the round it is not heard any more."""
    return None if time is None or time + delay > length else time + delay


def arrivals_in(panel, environment):
    """What arrivals_of tells, of values that are known to be right."""
    row, delays, _ = environment
    return tuple([arrival(time, delay, panel.length) for time, delay in zip(row, delays)])


def bringing(panel, row, arrivals, slip):
    """An environment with a row and a slip that brings arrivals which this row can have."""
    delays = []
    for time, heard, (least, greatest) in zip(row, arrivals, panel.delays):
        if time is None:
            delays.append(least)
        else:
            # Who does not hear of a ring may take it to be as late as it can be.
            delays.append(greatest if heard is None else heard - time)
    return row, tuple(delays), slip
