"""Shocks: how many rounds that are worse than was said can be borne, and what shows it."""

from roundpromises.checks import is_number, is_tuple_of
from roundpromises.errors import BadWide
from roundpromises.ever import good_modes
from roundpromises.looks import earliest_table, is_answered_rightly, is_strife, lay_of
from roundpromises.modes import is_table_for
from roundpromises.ranks import is_ranked
from roundpromises.sights import Panel, check_few_environments, environments
from roundpromises.stock import check_rounds, is_mode_with_stock
from roundpromises.strange import (
    breach_ranks,
    breach_strife,
    goods_with,
    is_against,
    is_at_least,
    key_behind,
    leaving_letters,
    numbers_borne,
    wrongs_with,
)
from roundpromises.works import are_modes, check_mode, check_works


def bears(works, wide, mode):
    """The greatest number of strange rounds that a mode bears; None for every number, -1 for not even 0."""
    check_wide(works, wide)
    check_mode(works, mode)
    return numbers_of(works, wide)[mode]


def armour(works, wide):
    """The dict from all good modes to what they bear and Tables that do; None if mode 0 is not good."""
    check_wide(works, wide)
    every = numbers_of(works, wide)
    if every[0] == -1:
        return None
    numbers = {mode: number for mode, number in enumerate(every) if number != -1}
    lay = lay_of(works.panel)
    found = {}
    for mode, number in numbers.items():
        near, far = leaving_letters(works, numbers, mode)
        found[mode] = (number, earliest_table(lay, goods_with(works, wide, mode, near, far)))
    return found


def is_armour(works, wide, thing):
    """Tell whether any value is an armour of a works."""
    check_wide(works, wide)
    if not are_modes(works, thing) or not all([is_plate(works, pair) for pair in thing.values()]):
        return False
    numbers = {mode: pair[0] for mode, pair in thing.items()}
    for mode, pair in thing.items():
        near, far = leaving_letters(works, numbers, mode)
        wrongs = wrongs_with(works, wide, mode, near, far)
        if not is_answered_rightly(lay_of(works.panel), wrongs, pair[1].answers()):
            return False
    return True


def breach(works, wide, rounds):
    """A breach of a number of strange rounds; None if mode 0 bears it."""
    check_wide(works, wide)
    check_rounds(rounds)
    if is_at_least(numbers_of(works, wide)[0], rounds):
        return None
    ranks = breach_ranks(works, wide, rounds)
    every = environments(wide)
    found = {}
    left = [(0, rounds)]
    while left:
        key = left.pop()
        if key not in found:
            strife = breach_strife(works, wide, ranks, key, every)
            found[key] = (ranks[key], strife)
            behind = [key_behind(works, key, time, environment) for time, environment in strife[1].items()]
            left = left + [then for then in behind if then is not None]
    return {key: found[key] for key in sorted(found)}


def is_breach(works, wide, rounds, thing):
    """Tell whether any value is a breach of a number of strange rounds."""
    check_wide(works, wide)
    check_rounds(rounds)
    if not isinstance(thing, dict) or not all([is_mode_with_stock(works, key) for key in thing.keys()]):
        return False
    if (0, rounds) not in thing or not all([is_ranked(pair) for pair in thing.values()]):
        return False
    ranks = {key: pair[0] for key, pair in thing.items()}
    return all([is_strife_at(works, wide, ranks, key, pair[1]) for key, pair in thing.items()])


def check_wide(works, wide):
    """Refuse what is no Works, then what is no panel as wide as its own, or has too many environments."""
    check_works(works)
    if not is_wide(works.panel, wide):
        raise BadWide("a wide panel has the inputs and the length of the works' panel, and no less delays and slip")
    check_few_environments(wide)


def is_wide(panel, thing):
    """Tell whether any value is a Panel that lets all that a panel lets."""
    if not isinstance(thing, Panel) or thing.inputs != panel.inputs or thing.length != panel.length:
        return False
    wider = [one[0] <= two[0] and one[1] >= two[1] for one, two in zip(thing.delays, panel.delays)]
    return all(wider) and thing.slip >= panel.slip


def is_plate(works, thing):
    """Tell whether any value is a pair of a number from 0 on, or None, and a Table of the works' panel."""
    if not is_tuple_of(thing, 2) or not is_table_for(works, thing[1]):
        return False
    return thing[0] is None or (is_number(thing[0]) and thing[0] >= 0)


def numbers_of(works, wide):
    """For each mode what bears tells."""
    return numbers_borne(works, wide, good_modes(works))


def is_strife_at(works, wide, ranks, key, thing):
    """Tell whether any value is a strife at a key of a breach, given the ranks of all its keys."""
    return is_strife(wide, thing, lambda time, environment: is_against(works, ranks, key, time, environment))
