"""Views: which modes may be, as far as the shift book tells, and what can be answered then."""

from roundpromises.bits import rung_bits
from roundpromises.looks import good_times, heard_wrongs, is_strife, lay_of, strife_of
from roundpromises.modes import allowed_rings, is_allowed_at, letter_at, letters_where, modes_of, wrongs_of
from roundpromises.ranks import is_lower, ranked
from roundpromises.rows import times_of
from roundpromises.sights import arrivals_in, bringing


def possible_letters(works, arrivals, moment):
    """The letters that some environment with just these arrivals leaves."""
    found = 0
    lay = lay_of(works.panel)
    late = letters_rung(works, moment)
    for row in lay.bringers[lay.places[arrivals]]:
        found = found | late[row]
    return found


def letters_rung(works, moment):
    """For each row of true times the letters that are left there when the output is rung at a time."""
    rung = modes_of(works).rung_letters
    if moment not in rung:
        bits = rung_bits(moment, works.panel.slip)
        rung[moment] = [letters_where([leaves & bits for leaves in leaving]) for leaving in modes_of(works).leaving]
    return rung[moment]


def named_so(works, ledger, name):
    """The letters to which a ledger gives a name."""
    return letters_where([ledger[letter] == name for letter in works.letters])


def left_of(works, view, letters):
    """The ascending tuple of the modes to which these letters lead from those of a view."""
    found = [to for mode in view for at, to in enumerate(works._ways[mode]) if letters >> at & 1]
    return tuple(sorted(set(found)))


def environment_leaving(works, arrivals, moment, letter):
    """An environment with these arrivals that leaves a letter when the output is rung at a time."""
    lay = lay_of(works.panel)
    late = letters_rung(works, moment)
    rows = [row for row in lay.bringers[lay.places[arrivals]] if late[row] >> letter & 1]
    every = [bringing(works.panel, lay.rows[rows[0]], arrivals, slip) for slip in range(works.panel.slip + 1)]
    found = [environment for environment in every if letter_at(works, environment, moment) == letter]
    return found[0]


def letters_heard(works):
    """For each row of arrivals that can be heard its place and, time by time, the letters that may be left."""
    modes = modes_of(works)
    if modes.heard_letters is None:
        lay = lay_of(works.panel)
        heard = [place for place, bringers in enumerate(lay.bringers) if bringers]
        times = times_of(lay.length)
        modes.heard_letters = [(at, [possible_letters(works, lay.rows[at], time) for time in times]) for at in heard]
    return modes.heard_letters


def views_from(works, ledger, start):
    """The ascending list of all views to which rounds may lead from one, itself among them."""
    every = sorted(set([letters for _, told in letters_heard(works) for letters in told]))
    names = sorted(set(list(ledger.values())))
    masks = sorted(set([letters & named_so(works, ledger, name) for letters in every for name in names]))
    found = {start: True}
    left = [start]
    while left:
        view = left.pop()
        for then in [left_of(works, view, letters) for letters in masks if letters]:
            if then not in found:
                found[then] = True
                left.append(then)
    return sorted(found)


def ranks_from(works, ledger, start):
    """The ranks of all views that are not safe among those to which rounds may lead from one."""

    def can_keep(view, ranks):
        """Tell whether a Table is fit at a view if none may be led to that has a rank."""
        return 0 not in goods_at(works, ledger, view, lambda then: then in ranks)

    return ranked(views_from(works, ledger, start), can_keep)


def wrongs_at(works, ledger, view, is_barred):
    """For each row of arrivals the times that are wrong at a view, some views being barred."""
    panel = works.panel
    allowed = allowed_by_all(works, view)
    found = heard_wrongs(lay_of(panel), wrongs_of(panel, allowed))
    names = [named_so(works, ledger, name) for name in sorted(set(list(ledger.values())))]
    told = {}
    for place, times in letters_heard(works):
        for at, letters in enumerate(times):
            if letters not in told:
                lefts = [left_of(works, view, letters & named) for named in names if letters & named]
                told[letters] = any([is_barred(left) for left in lefts])
            if told[letters]:
                found[place] = found[place] | 1 << at
    return found


def allowed_by_all(works, view):
    """For each row the ringings that the promises of the active rules of each mode of a view allow."""
    found = allowed_rings(works, view[0])
    for mode in view[1:]:
        found = [rings & more for rings, more in zip(found, allowed_rings(works, mode))]
    return found


def goods_at(works, ledger, view, is_barred):
    """For each row of arrivals the times that are good at a view, some views being barred."""
    return good_times(lay_of(works.panel), wrongs_at(works, ledger, view, is_barred))


def is_wrong_at(works, ledger, view, is_barred, time, environment):
    """Tell whether a time breaks a promise of some mode of a view, or leads to a view that is barred."""
    if not all([is_allowed_at(works, mode, environment, time) for mode in view]):
        return True
    name = ledger[works.letters[letter_at(works, environment, time)]]
    possible = possible_letters(works, arrivals_in(works.panel, environment), time)
    return is_barred(left_of(works, view, possible & named_so(works, ledger, name)))


def is_strife_at(works, ledger, view, ranks, thing):
    """Tell whether any value is a strife at a view, given the ranks of the keys of a blind spot."""

    def speaks(time, environment):
        """Tell whether an environment speaks against a time."""
        return is_wrong_at(works, ledger, view, lambda then: is_lower(ranks, then, view), time, environment)

    return is_strife(works.panel, thing, speaks)


def found_strife(works, ledger, view, ranks, every):
    """A strife at a view that is not safe, of some of the environments, which are all of the panel."""

    def is_barred(then):
        """Tell whether a view has a lesser rank."""
        return is_lower(ranks, then, view)

    def is_wrong(time, environment):
        """Tell whether a time is wrong in an environment."""
        return is_wrong_at(works, ledger, view, is_barred, time, environment)

    at = goods_at(works, ledger, view, is_barred).index(0)
    return strife_of(works.panel, at, every, is_wrong)
