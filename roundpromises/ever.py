"""For ever: from which modes all promises can be kept for ever, and what shows that, or that it is not so."""

from roundpromises.modes import (
    can_bar,
    is_allowed_at,
    is_quarrel_with,
    is_table_with,
    letter_at,
    letters_where,
    modes_of,
    quarrel_with,
    table_with,
    task_with,
)
from roundpromises.one import latest
from roundpromises.ranks import is_lower, is_ranked, ranked
from roundpromises.rows import check_moment
from roundpromises.sights import check_environment
from roundpromises.works import are_modes, check_mode, check_works, task_of


def good_modes(works):
    """The ascending tuple of the modes from which all promises can be kept for ever."""
    check_works(works)
    return tuple([mode for mode, level in enumerate(ranks_of(works)) if level is None])


def rank(works, mode):
    """Within how many rounds the inputs can break a promise from a mode on; None for good modes."""
    check_works(works)
    check_mode(works, mode)
    return ranks_of(works)[mode]


def lasts(works):
    """Tell whether mode 0 is good."""
    check_works(works)
    return is_lasting(works)


def kept_task(works, mode):
    """The Task of a mode with just all letters barred that lead to modes that are not good."""
    check_works(works)
    check_mode(works, mode)
    barred = lost_letters(works, mode)
    return task_of(works, mode, [letter for at, letter in enumerate(works.letters) if barred >> at & 1])


def strategy(works):
    """The dict from all good modes to the earliest Tables that keep their Tasks; None if mode 0 is not good."""
    check_works(works)
    if not is_lasting(works):
        return None
    return {mode: table_with(works, mode, lost_letters(works, mode)) for mode in good_modes(works)}


def late_strategy(works):
    """The dict from all good modes to the latest Tables that keep their Tasks; None if mode 0 is not good."""
    check_works(works)
    if not is_lasting(works):
        return None
    return {mode: latest(task_with(works, mode, lost_letters(works, mode))) for mode in good_modes(works)}


def is_strategy(works, thing):
    """Tell whether any value is a strategy of a works."""
    check_works(works)
    if not are_modes(works, thing):
        return False
    leaving = {mode: letters_where([to not in thing for to in works._ways[mode]]) for mode in thing}
    return all([is_table_with(works, mode, leaving[mode], table) for mode, table in thing.items()])


def doom(works):
    """The doom of just all modes that are not good; None if mode 0 is good."""
    check_works(works)
    if is_lasting(works):
        return None
    ranks = {mode: level for mode, level in enumerate(ranks_of(works)) if level is not None}
    return {mode: (ranks[mode], quarrel_with(works, mode, sinking_letters(works, ranks, mode))) for mode in ranks}


def is_doom(works, thing):
    """Tell whether any value is a doom of a works."""
    check_works(works)
    if not are_modes(works, thing) or not all([is_ranked(pair) for pair in thing.values()]):
        return False
    ranks = {mode: pair[0] for mode, pair in thing.items()}
    sinking = {mode: sinking_letters(works, ranks, mode) for mode in ranks}
    return all([is_quarrel_with(works, mode, sinking[mode], pair[1]) for mode, pair in thing.items()])


def round_letter(works, environment, moment):
    """The letter of a round in which the output is rung at a time."""
    check_works(works)
    check_environment(works.panel, environment)
    check_moment(moment, works.panel.length)
    return works.letters[letter_at(works, environment, moment)]


def keeps_round(works, mode, environment, moment):
    """Tell whether the promises of the active rules of a mode allow the output to be rung at a time."""
    check_works(works)
    check_mode(works, mode)
    check_environment(works.panel, environment)
    check_moment(moment, works.panel.length)
    return is_allowed_at(works, mode, environment, moment)


def ranks_of(works):
    """The rank of each mode, None for good ones, worked out once."""
    modes = modes_of(works)
    if modes.ranks is None:
        found = ranked(
            list(range(len(works))), lambda mode, ranks: can_bar(works, mode, sinking_to(works, ranks, mode))
        )
        modes.ranks = [found.get(mode) for mode in range(len(works))]
    return modes.ranks


def sinking_to(works, ranks, mode):
    """The letters that lead from a mode to any that has a rank."""
    return letters_where([to in ranks for to in works._ways[mode]])


def sinking_letters(works, ranks, mode):
    """The letters that lead from a mode to one with a lesser rank."""
    return letters_where([is_lower(ranks, to, mode) for to in works._ways[mode]])


def lost_letters(works, mode):
    """The letters that lead from a mode to modes that are not good."""
    ranks = ranks_of(works)
    return letters_where([ranks[to] is not None for to in works._ways[mode]])


def is_lasting(works):
    """What lasts tells, of what is known to be a Works."""
    return ranks_of(works)[0] is None
