"""Courses: to which pairs of a mode of a works and a state the rounds of somebody lead, and by which letters.

Somebody has *states*: a list of pairs of what is answered and the indexes of the states behind the letters, in their
order. What is answered is told, for each row of arrivals, by the tuple of the times that may be: a Machine has just
one, whoever plays a works may have many. The ringings that *come* in a state are, for each row of true times, those
that its answers bring there.
"""

from roundpromises.bits import ALL_RINGINGS, ringing_bit, rung_bits
from roundpromises.looks import lay_of
from roundpromises.modes import allowed_rings, modes_of
from roundpromises.sights import bringing


def coming_rings(works, answers):
    """For each row of true times the ringings that come with answers, told for each row of arrivals."""
    rings = []
    for times in answers:
        bits = 0
        for time in times:
            bits = bits | rung_bits(time, works.panel.slip)
        rings.append(bits)
    found = []
    for places in lay_of(works.panel).brought:
        bits = 0
        for place in places:
            bits = bits | rings[place]
        found.append(bits)
    return found


def is_broken(works, mode, coming):
    """Tell whether some ringing that comes breaks a promise of the active rules of a mode."""
    return any([rings & ~allowed != 0 for rings, allowed in zip(coming, allowed_rings(works, mode))])


def kept_letters(works, mode, coming):
    """The ascending list of the indexes of the letters of rounds that keep the promises of a mode."""
    found = [0 for _ in works.letters]
    for rings, allowed, leaving in zip(coming, allowed_rings(works, mode), modes_of(works).leaving):
        found = [bits | rings & allowed & leaves for bits, leaves in zip(found, leaving)]
    return [at for at, bits in enumerate(found) if bits]


def met_pairs(works, states):
    """The dict from all pairs (mode, state) met while promises are kept, the nearest first.

    Each leads to the list of its ends: pairs of the index of a letter and the pair behind it.
    """
    coming = [coming_rings(works, answers) for answers, _ in states]
    known = {(0, 0): True}
    left = [(0, 0)]
    found = {}
    while len(found) < len(left):
        mode, state = left[len(found)]
        _, ways = states[state]
        ends = [(at, (works._ways[mode][at], ways[at])) for at in kept_letters(works, mode, coming[state])]
        for _, pair in ends:
            if pair not in known:
                known[pair] = True
                left.append(pair)
        found[(mode, state)] = ends
    return found


def first_broken_pair(works, states, met):
    """The first of the pairs met in which a promise may be broken; None if there is none."""
    coming = [coming_rings(works, answers) for answers, _ in states]
    for mode, state in met:
        if is_broken(works, mode, coming[state]):
            return mode, state
    return None


def course_to_break(works, states, met, pair):
    """A list of pairs of an environment and the answer that leads to a pair, the nearest way, and breaks a promise."""
    ahead = {}
    for start, ends in met.items():
        for letter, end in ends:
            ahead.setdefault(end, (start, letter))
    broken = [ALL_RINGINGS & ~rings for rings in allowed_rings(works, pair[0])]
    found = [round_with(works, states[pair[1]][0], broken)]
    while pair != (0, 0):
        pair, letter = ahead[pair]
        leaving = [leaves[letter] for leaves in modes_of(works).leaving]
        wanted = [rings & leaves for rings, leaves in zip(allowed_rings(works, pair[0]), leaving)]
        found = [round_with(works, states[pair[1]][0], wanted)] + found
    return found


def round_with(works, answers, wanted):
    """An environment and an answer with which a ringing comes that is wanted for its row; None if there is none."""
    lay = lay_of(works.panel)
    for row, places in enumerate(lay.brought):
        for place in places:
            for moment in answers[place]:
                for slip in range(works.panel.slip + 1):
                    if ringing_bit(moment, slip) & wanted[row]:
                        return bringing(works.panel, lay.rows[row], lay.rows[place], slip), moment
    return None


def is_odd_cycle_met(met, marks):
    """Tell whether some way among the pairs leads round with an odd greatest mark; marks in the order of letters."""
    for odd in (1, 3):
        low = {pair: [end for letter, end in ends if marks[letter] <= odd] for pair, ends in met.items()}
        behind = {pair: all_behind(low, pair) for pair in met}
        for pair, ends in met.items():
            if any([marks[letter] == odd and pair in behind[end] for letter, end in ends]):
                return True
    return False


def all_behind(ways, start):
    """The dict of True of all to which ways lead from a start, itself among them."""
    found = {start: True}
    left = [start]
    while left:
        place = left.pop()
        for end in ways[place]:
            if end not in found:
                found[end] = True
                left.append(end)
    return found


def least_needs(met, gains):
    """The least stock for each pair with which it is never below 0; None if there is none. Gains as marks."""
    found = {pair: 0 for pair in met}
    for _ in range(len(met) + 1):
        ahead = found
        found = {}
        for pair, ends in met.items():
            found[pair] = max([0] + [ahead[end] - gains[letter] for letter, end in ends])
        if found == ahead:
            return found
    return None
