"""Delays that stay the same, but are not known: whether they can be learnt in time."""

from roundpromises.bits import wrong_times
from roundpromises.checks import is_ascending, is_tuple_of
from roundpromises.errors import BadGuess, TooMany
from roundpromises.looks import earliest_table, good_times, is_answered_rightly, is_strife, lay_of, strife_of
from roundpromises.modes import allowed_rings, is_allowed_at, is_table_for, letter_at, modes_of
from roundpromises.ranks import is_lower, is_ranked, ranked
from roundpromises.rows import check_row_of
from roundpromises.sights import all_delays, are_delays, arrivals_in, environments
from roundpromises.works import check_mode, check_works, is_mode

MOST_DELAYS = 16
MOST_TO_CHOOSE = 6


def first_guess(works):
    """The guess with all delays of the panel."""
    check_learning(works)
    return tuple(all_delays(works.panel))


def guess_left(works, guess, row, arrivals):
    """The delays of a guess with which a row has these arrivals."""
    check_learning(works)
    check_guess(works, guess)
    check_row_of(row, len(works.panel.inputs), works.panel.length)
    check_row_of(arrivals, len(works.panel.inputs), works.panel.length)
    return left_of(works, guess, row, arrivals)


def is_safe(works, mode, guess):
    """Tell whether all promises can be kept for ever from a place on."""
    check_learning(works)
    check_mode(works, mode)
    check_guess(works, guess)
    return (mode, guess) not in ranks_from(works, [(mode, guess)])


def can_learn(works):
    """Tell whether the place of mode 0 and the first guess is safe."""
    check_learning(works)
    place = first_place(works)
    return place not in ranks_from(works, [place])


def lore(works):
    """A dict from places to Tables that are fit there; None if delays cannot be learnt in time."""
    check_learning(works)
    first = first_place(works)
    ranks = ranks_from(works, [first])
    if first in ranks:
        return None
    safe = [place for place in sorted(places_from(works, [first])) if place not in ranks]
    lay = lay_of(works.panel)
    return {place: earliest_table(lay, goods_at(works, place, lambda then: then in ranks)) for place in safe}


def is_lore(works, thing):
    """Tell whether any value is a lore of a works."""
    check_learning(works)
    if not are_places(works, thing) or not all([is_table_for(works, table) for table in thing.values()]):
        return False
    lay = lay_of(works.panel)
    for place, table in thing.items():
        if not is_answered_rightly(lay, wrongs_at(works, place, lambda then: then not in thing), table.answers()):
            return False
    return True


def riddle(works):
    """A dict from places to ranks and strifes; None if delays can be learnt in time."""
    check_learning(works)
    first = first_place(works)
    ranks = ranks_from(works, [first])
    if first not in ranks:
        return None
    every = environments(works.panel)
    return {place: (ranks[place], found_strife(works, place, ranks, every)) for place in sorted(ranks)}


def is_riddle(works, thing):
    """Tell whether any value is a riddle of a works."""
    check_learning(works)
    if not are_places(works, thing) or not all([is_ranked(pair) for pair in thing.values()]):
        return False
    ranks = {place: pair[0] for place, pair in thing.items()}
    return all([is_strife_at(works, place, ranks, pair[1]) for place, pair in thing.items()])


def greatest_guesses(works):
    """The ascending list of the guesses that are safe with mode 0 while no greater one is."""
    check_choosing(works)
    guesses, ranks = all_guesses(works)
    safe = [guess for guess in guesses if (0, guess) not in ranks]
    return [guess for guess in safe if not any([is_greater(other, guess) for other in safe])]


def least_guesses(works):
    """The ascending list of the guesses that are not safe with mode 0 while any lesser one is."""
    check_choosing(works)
    guesses, ranks = all_guesses(works)
    lost = [guess for guess in guesses if (0, guess) in ranks]
    return [guess for guess in lost if not any([is_greater(guess, other) for other in lost])]


def check_learning(works):
    """Refuse what is no Works, then one with too many delays to be learnt."""
    check_works(works)
    if many_delays(works.panel) > MOST_DELAYS:
        raise TooMany(MOST_DELAYS)


def check_choosing(works):
    """Refuse also a Works with too many delays to try all guesses."""
    check_learning(works)
    if many_delays(works.panel) > MOST_TO_CHOOSE:
        raise TooMany(MOST_TO_CHOOSE)


def check_guess(works, guess):
    """Refuse what is no guess of a works."""
    if not is_guess(works, guess):
        raise BadGuess("a guess is an ascending tuple of one or more different delays of the panel")


def many_delays(panel):
    """How many different delays a panel has."""
    found = 1
    for least, greatest in panel.delays:
        found = found * (greatest - least + 1)
    return found


def is_guess(works, thing):
    """Tell whether any value is a guess of a works."""
    if not isinstance(thing, tuple) or not thing:
        return False
    return all([are_delays(works.panel, delays) for delays in thing]) and is_ascending(thing)


def is_place(works, thing):
    """Tell whether any value is a pair of a mode and a guess."""
    return is_tuple_of(thing, 2) and is_mode(works, thing[0]) and is_guess(works, thing[1])


def are_places(works, thing):
    """Tell whether any value is a dict from places, that of mode 0 and the first guess among them."""
    if not isinstance(thing, dict) or not all([is_place(works, place) for place in thing.keys()]):
        return False
    return first_place(works) in thing


def first_place(works):
    """The place of mode 0 and the first guess."""
    return 0, tuple(all_delays(works.panel))


def left_of(works, guess, row, arrivals):
    """What guess_left tells, of values that are known to be right."""
    return tuple([delays for delays in guess if arrivals_in(works.panel, (row, delays, 0)) == arrivals])


def lefts_of(works, guess):
    """For each row of true times the list of pairs of the place of arrivals and the guess that these leave."""
    lefts = modes_of(works).lefts
    if guess not in lefts:
        lefts[guess] = [lefts_in(works, guess, row) for row in lay_of(works.panel).rows]
    return lefts[guess]


def lefts_in(works, guess, row):
    """What lefts_of tells, of one row."""
    heard = {}
    for delays in guess:
        heard.setdefault(arrivals_in(works.panel, (row, delays, 0)), []).append(delays)
    places = lay_of(works.panel).places
    return [(places[arrivals], tuple(left)) for arrivals, left in heard.items()]


def places_from(works, starts):
    """The dict of True of all places to which rounds may lead from some places, these among them."""
    found = {place: True for place in starts}
    left = list(starts)
    while left:
        mode, guess = left.pop()
        guesses = sorted(set([then for pairs in lefts_of(works, guess) for _, then in pairs]))
        for place in [(to, then) for to in works._ways[mode] for then in guesses]:
            if place not in found:
                found[place] = True
                left.append(place)
    return found


def ranks_from(works, starts):
    """The ranks of all places that are not safe among those to which rounds may lead from some places."""

    def can_keep(place, ranks):
        """Tell whether a Table is fit at a place if none may be led to that has a rank."""
        return 0 not in goods_at(works, place, lambda then: then in ranks)

    return ranked(sorted(places_from(works, starts)), can_keep)


def wrongs_at(works, place, is_barred):
    """For each row of arrivals the times that are wrong at a place, some places being barred."""
    mode, guess = place
    panel = works.panel
    found = [0 for _ in lay_of(panel).rows]
    told = {}
    for pairs, allowed, leaving in zip(lefts_of(works, guess), allowed_rings(works, mode), modes_of(works).leaving):
        for arrivals, left in pairs:
            rings = allowed
            for to, leaves in zip(works._ways[mode], leaving):
                if is_barred((to, left)):
                    rings = rings & ~leaves
            if rings not in told:
                told[rings] = wrong_times(rings, panel.length, panel.slip)
            found[arrivals] = found[arrivals] | told[rings]
    return found


def goods_at(works, place, is_barred):
    """For each row of arrivals the times that are good at a place, some places being barred."""
    return good_times(lay_of(works.panel), wrongs_at(works, place, is_barred))


def all_guesses(works):
    """The ascending list of all guesses, and the ranks of the places to which they lead that are not safe."""
    guesses = [()]
    for delays in all_delays(works.panel):
        guesses = guesses + [guess + (delays,) for guess in guesses]
    guesses = sorted([guess for guess in guesses if guess])
    return guesses, ranks_from(works, [(0, guess) for guess in guesses])


def is_greater(guess, other):
    """Tell whether a guess has all delays of the other one and more."""
    return len(guess) > len(other) and all([delays in guess for delays in other])


def is_wrong_at(works, place, is_barred, time, environment):
    """Tell whether a time breaks a promise at a place, or leads to one that is barred."""
    mode, guess = place
    if not is_allowed_at(works, mode, environment, time):
        return True
    row, _, _ = environment
    left = left_of(works, guess, row, arrivals_in(works.panel, environment))
    return is_barred((works._ways[mode][letter_at(works, environment, time)], left))


def is_strife_at(works, place, ranks, thing):
    """Tell whether any value is a strife at a place, given the ranks of the keys of a riddle."""

    def speaks(time, environment):
        """Tell whether an environment with delays of the guess speaks against a time."""
        if environment[1] not in place[1]:
            return False
        return is_wrong_at(works, place, lambda then: is_lower(ranks, then, place), time, environment)

    return is_strife(works.panel, thing, speaks)


def found_strife(works, place, ranks, every):
    """A strife at a place that is not safe, of some of the environments, which are all of the panel."""

    def is_barred(then):
        """Tell whether a place has a lesser rank."""
        return is_lower(ranks, then, place)

    def is_wrong(time, environment):
        """Tell whether a time is wrong in an environment."""
        return is_wrong_at(works, place, is_barred, time, environment)

    known = [environment for environment in every if environment[1] in place[1]]
    return strife_of(works.panel, goods_at(works, place, is_barred).index(0), known, is_wrong)
