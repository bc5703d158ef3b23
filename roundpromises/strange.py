"""Strange rounds: those whose environments are of a wide panel and none of the works' own panel.

Letters are barred twice: *near* ones in rounds that are not strange, *far* ones in strange rounds. What is barred far
is barred near as well; far letters None stand for no strange rounds at all.
"""

from roundpromises.looks import good_times, heard_wrongs, lay_of, strife_of
from roundpromises.modes import is_allowed_at, letter_at, letters_where, modes_of, right_rings, wrongs_of
from roundpromises.ranks import is_lower, ranked
from roundpromises.sights import is_environment_of


def wrongs_with(works, wide, mode, near, far):
    """For each row of arrivals the times that are wrong in some environment of a wide panel that brings it."""
    found = heard_wrongs(lay_of(works.panel), wrongs_of(works.panel, right_rings(works, mode, near)))
    if far is None:
        return found
    # Far letters are near ones too, so in the works' own environments nothing more is wrong by them.
    more = heard_wrongs(lay_of(wide), wrongs_of(wide, right_rings(works, mode, far)))
    return [times | others for times, others in zip(found, more)]


def goods_with(works, wide, mode, near, far):
    """The good times of each row of arrivals in a mode, with letters barred near and far."""
    known = modes_of(works).strange
    key = (wide.delays, wide.slip, mode, near, far)
    if key not in known:
        known[key] = good_times(lay_of(works.panel), wrongs_with(works, wide, mode, near, far))
    return known[key]


def can_bar_with(works, wide, mode, near, far):
    """Tell whether some Table keeps a mode's promises with letters barred near and far."""
    return 0 not in goods_with(works, wide, mode, near, far)


def borne_more(works, wide, borne):
    """Those of the modes that bear a number, given in a list, that bear the next number too."""

    def can_keep(mode, left_out):
        """Tell whether a round in a mode can be kept within those not left out, and a strange one within the borne."""
        far = letters_where([to not in borne for to in works._ways[mode]])
        near = letters_where([to not in borne or to in left_out for to in works._ways[mode]])
        return can_bar_with(works, wide, mode, near, far)

    lost = ranked(borne, can_keep)
    return [mode for mode in borne if mode not in lost]


def numbers_borne(works, wide, good):
    """For each mode the greatest number that it bears, None for every number, -1 if it is none of the good modes."""
    levels = [list(good)]
    while len(levels) == 1 or levels[-1] != levels[-2]:
        levels.append(borne_more(works, wide, levels[-1]))
    found = [-1 for _ in range(len(works))]
    for number, borne in enumerate(levels):
        for mode in borne:
            found[mode] = number
    # Where all that bear a number bear the next one too, they bear each further one as well.
    for mode in levels[-1]:
        found[mode] = None
    return found


def is_at_least(number, other):
    """Tell whether a number is not less than another one; None is greater than all numbers."""
    return number is None or (other is not None and number >= other)


def leaving_letters(works, numbers, mode):
    """The near and the far letters that an armour must bar in a key, given the numbers of its keys."""
    number = numbers[mode]
    near = letters_below(works, numbers, mode, number)
    if number == 0:
        return near, None
    return near, letters_below(works, numbers, mode, None if number is None else number - 1)


def letters_below(works, numbers, mode, number):
    """The letters that lead from a mode to no key, or to one whose number is less than a number."""
    return letters_where([to not in numbers or not is_at_least(numbers[to], number) for to in works._ways[mode]])


def breach_ranks(works, wide, rounds):
    """The ranks of all pairs of a mode and a number up to one that it does not bear."""

    def can_keep(key, ranks):
        """Tell whether a round can be kept that leads to no pair that has a rank."""
        near, far = barred_by(works, key, lambda then: then in ranks)
        return can_bar_with(works, wide, key[0], near, far)

    return ranked([(mode, number) for number in range(rounds + 1) for mode in range(len(works))], can_keep)


def barred_by(works, key, is_barred):
    """The near and the far letters that lead from a pair of a mode and a number to pairs that are barred."""
    mode, number = key
    near = letters_where([is_barred((to, number)) for to in works._ways[mode]])
    if number == 0:
        return near, None
    return near, letters_where([is_barred((to, number - 1)) for to in works._ways[mode]])


def key_behind(works, key, time, environment):
    """The pair of the mode and the number that is left behind a round; None if the round breaks a promise."""
    mode, number = key
    if not is_allowed_at(works, mode, environment, time):
        return None
    to = works._ways[mode][letter_at(works, environment, time)]
    return to, number if is_environment_of(works.panel, environment) else number - 1


def is_against(works, ranks, key, time, environment):
    """Tell whether an environment speaks against a time, given the ranks of the keys of a breach."""
    if key[1] == 0 and not is_environment_of(works.panel, environment):
        return False
    then = key_behind(works, key, time, environment)
    return then is None or is_lower(ranks, then, key)


def breach_strife(works, wide, ranks, key, every):
    """A strife at a pair that has a rank, of some of the environments, which are all of the wide panel."""
    near, far = barred_by(works, key, lambda then: is_lower(ranks, then, key))
    at = goods_with(works, wide, key[0], near, far).index(0)
    return strife_of(wide, at, every, lambda time, environment: is_against(works, ranks, key, time, environment))
