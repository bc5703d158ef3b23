"""What was seen in the field: which faults of a panel explain when the output rang."""

from roundpromises.checks import is_list, is_number, is_tuple_of, is_within
from roundpromises.corners import all_known_delays, are_known_delays, check_few_known_delays
from roundpromises.errors import BadFaults, BadSeen
from roundpromises.rows import is_row_of
from roundpromises.sights import arrival, check_panel
from roundpromises.tables import check_fits, check_table

MOST_SLOW = 3
LAST_RUNG = 16


def explains(panel, table, faults, seen):
    """Tell whether what was seen can come about with these faults, the table answering."""
    check_panel(panel)
    check_table(table)
    check_fits(panel, table)
    if not are_faults(panel, faults):
        raise BadFaults("faults are a triple of how late inputs are, how slow the output is, and whether it is stuck")
    check_seen(panel, seen)
    return is_explained(panel, faults, answered(panel, table.answers(), faults[0], seen), seen)


def least_faults(panel, table, seen):
    """The ascending list of the faults that explain what was seen while no other ones within them do."""
    check_panel(panel)
    check_table(table)
    check_fits(panel, table)
    check_seen(panel, seen)
    check_few_known_delays(panel)
    answers = table.answers()
    told = {lates: answered(panel, answers, lates, seen) for lates in all_known_delays(panel)}
    found = []
    for faults in all_faults(panel):
        # Whatever is within these faults came ahead of them.
        if not any([are_within(least, faults) for least in found]):
            if is_explained(panel, faults, told[faults[0]], seen):
                found.append(faults)
    return found


def check_seen(panel, seen):
    """Refuse what is no list of what was seen by a panel."""
    if not is_list(seen):
        raise BadSeen(None)
    for at, thing in enumerate(seen):
        if not is_tuple_of(thing, 2) or not is_row_of(thing[0], len(panel.inputs), panel.length):
            raise BadSeen(at)
        if thing[1] is not None and not is_within(thing[1], 0, LAST_RUNG):
            raise BadSeen(at)


def are_faults(panel, thing):
    """Tell whether any value is faults of a panel."""
    if not is_tuple_of(thing, 3) or not are_known_delays(panel, thing[0]):
        return False
    return is_within(thing[1], 0, MOST_SLOW) and isinstance(thing[2], bool)


def all_faults(panel):
    """The ascending list of all faults of a panel."""
    every = [(lates, slow) for lates in all_known_delays(panel) for slow in range(MOST_SLOW + 1)]
    return [pair + (is_stuck,) for pair in every for is_stuck in (False, True)]


def are_within(faults, others):
    """Tell whether faults are within others."""
    lates, slow, is_stuck = faults
    no_later = [late <= other for late, other in zip(lates, others[0])]
    return all(no_later) and slow <= others[1] and (others[2] or not is_stuck)


def answered(panel, answers, lates, seen):
    """For each pair of what was seen the list of the different answers to the arrivals that its row can have."""
    return [answers_to(panel, answers, lates, row) for row, _ in seen]


def answers_to(panel, answers, lates, row):
    """The list of the different answers to the arrivals that a row can have if its inputs are so late."""
    heard = [()]
    for time, late, (least, greatest) in zip(row, lates, panel.delays):
        ends = {arrival(time, delay + late, panel.length): True for delay in range(least, greatest + 1)}
        heard = [ahead + (end,) for ahead in heard for end in ends]
    return list({answers[arrivals]: True for arrivals in heard})


def is_explained(panel, faults, told, seen):
    """Tell whether faults explain each pair of what was seen, given what can be answered there."""
    _, slow, is_stuck = faults
    if is_stuck:
        return all([rung is None for _, rung in seen])
    return all([is_rung(panel, slow, times, rung) for times, (_, rung) in zip(told, seen)])


def is_rung(panel, slow, times, rung):
    """Tell whether the output rings just then, so slow, if it is answered with one of some times."""
    if rung is None:
        return None in times
    return any([is_number(time) and 0 <= rung - slow - time <= panel.slip for time in times])
