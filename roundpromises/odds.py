"""Odds: what the answers of one round are worth, look by look, if each row has a weight.

A look until a moment is told by the pair of the moment and the place of the row that is heard until then; what is
answered never, by the place of the row that is heard in the whole round. The worth of an answer is told letter by
letter: the sum of the weights of the environments that keep the promises of the mode and leave this letter.
"""

from roundpromises.bits import ringing_bit
from roundpromises.looks import lay_of
from roundpromises.modes import allowed_rings, modes_of
from roundpromises.rows import cut, times_of
from roundpromises.tables import known_table


class Odds:
    """The looks of a works' panel, and the worths of answers to them in each mode, worked out when asked for.

    Looks are, for each moment, the ascending list of the places of the rows that can be heard until then; nexts
    are, for each look but those until the last moment, the places of the rows that can be heard one moment later.
    Ends are, for each row and each moment, the place of the row to which it is cut then. Bests are, for each number
    of rounds from 0 on as far as it was asked for, the best weights of the modes.
    """

    def __init__(self, works, weights):
        lay = lay_of(works.panel)
        self.judged = works
        self.lay = lay
        self.weights = [weights[row] for row in lay.rows]
        self.ends = [ends_of(lay, row) for row in lay.rows]
        self.looks = [looks_until(self.ends, moment) for moment in range(lay.length + 1)]
        self.nexts = {}
        for moment, places in enumerate(self.looks[1:]):
            for place in places:
                self.nexts.setdefault((moment, self.ends[place][moment]), []).append(place)
        self.brought = [counted_places(works.panel, row, lay.places) for row in lay.rows]
        self.worths = {}
        self.bests = [[1 for _ in range(len(works))]]

    def worths_in(self, mode):
        """The dict from looks, and from pairs of None and a place, to the worths of answering then."""
        if mode not in self.worths:
            self.worths[mode] = found_worths(self, mode)
        return self.worths[mode]


def odds_of(works, weights):
    """The Odds of a works with weights, worked out once."""
    known = modes_of(works).odds
    told = tuple([weights[row] for row in lay_of(works.panel).rows])
    if told not in known:
        known[told] = Odds(works, weights)
    return known[told]


def ends_of(lay, row):
    """For each moment the place of the row to which a row is cut then."""
    return [lay.places[cut(row, moment)] for moment in range(lay.length + 1)]


def looks_until(ends, moment):
    """The ascending list of the places of the rows that can be heard until a moment."""
    return [at for at, places in enumerate(ends) if places[moment] == at]


def counted_places(panel, row, places):
    """The list of pairs of the place of arrivals and how many delays bring them with a row."""
    found = [((), 1)]
    for time, (least, greatest) in zip(row, panel.delays):
        heard = {}
        for delay in range(least, greatest + 1):
            end = None if time is None or time + delay > panel.length else time + delay
            heard[end] = heard.get(end, 0) + 1
        found = [(ahead + (end,), many * more) for ahead, many in found for end, more in heard.items()]
    return [(places[arrivals], many) for arrivals, many in found]


def found_worths(odds, mode):
    """What worths_in tells of a mode."""
    panel = odds.judged.panel
    nothing = [0 for _ in odds.judged.letters]
    found = {(None, place): nothing for place in range(len(odds.lay.rows))}
    for moment, places in enumerate(odds.looks):
        for place in places:
            found[(moment, place)] = nothing
    allowed = allowed_rings(odds.judged, mode)
    leaving = modes_of(odds.judged).leaving
    for row, weight in enumerate(odds.weights):
        if weight:
            for moment in times_of(panel.length):
                kept = kept_slips(allowed[row], leaving[row], moment, panel.slip)
                if sum(kept):
                    add_worths(odds, found, row, moment, [many * weight for many in kept])
    return found


def kept_slips(allowed, leaving, moment, slip):
    """For each letter, with how many slips an answer keeps the promises and leaves it."""
    rings = [ringing_bit(moment, late) & allowed for late in range(slip + 1)]
    return [len([bit for bit in rings if bit & leaves]) for leaves in leaving]


def add_worths(odds, found, row, moment, worths):
    """Add the worths of an answer with a row to all looks that this row can bring."""
    for place, many in odds.brought[row]:
        look = (moment, place if moment is None else odds.ends[place][moment])
        found[look] = [ahead + many * worth for ahead, worth in zip(found[look], worths)]


def best_sums(odds, mode, behind):
    """For each look the greatest sum that the answers to it can have, if a mode behind counts as often as told."""
    sums = sums_of(odds, mode, behind)
    last = odds.lay.length
    found = {}
    for moment in reversed(range(last + 1)):
        for place in odds.looks[moment]:
            found[(moment, place)] = max(sums[(moment, place)], waiting_sum(odds, sums, found, (moment, place)))
    return found


def waiting_sum(odds, sums, found, look):
    """The sum of what is found for the looks into which one falls apart; behind the last moment, of never."""
    if look[0] == odds.lay.length:
        return sums[(None, look[1])]
    return sum([found[(look[0] + 1, place)] for place in odds.nexts[look]])


def sums_of(odds, mode, behind):
    """For each look the sum of the worths of answering then, each letter counting as often as its mode behind."""
    counts = [behind[to] for to in odds.judged._ways[mode]]
    return {
        look: sum([worth * count for worth, count in zip(worths, counts)])
        for look, worths in odds.worths_in(mode).items()
    }


def top_of(odds, found):
    """The sum of what is found for all looks until the moment 0."""
    return sum([found[(0, place)] for place in odds.looks[0]])


def bests_of(odds, rounds):
    """For each number of rounds, at least up to one, the list of the best weights of the modes."""
    while len(odds.bests) <= rounds:
        behind = odds.bests[-1]
        odds.bests.append([top_of(odds, best_sums(odds, mode, behind)) for mode in range(len(behind))])
    return odds.bests


def best_table(odds, mode, behind):
    """A Table whose answers have the greatest sum: it answers a look if no later answers can have more."""
    sums = sums_of(odds, mode, behind)
    found = best_sums(odds, mode, behind)
    answers = {}
    for row, ends in zip(odds.lay.rows, odds.ends):
        answers[row] = None
        for moment in reversed(range(odds.lay.length + 1)):
            look = (moment, ends[moment])
            if sums[look] >= waiting_sum(odds, sums, found, look):
                answers[row] = moment
    return known_table(odds.lay.size, odds.lay.length, answers)


def table_worths(odds, mode, table):
    """The worths of a Table in a mode, letter by letter: those of all looks that it answers."""
    answered = {}
    answers = table.answers()
    for place, row in enumerate(odds.lay.rows):
        moment = answers[row]
        answered[(moment, place if moment is None else odds.ends[place][moment])] = True
    worths = odds.worths_in(mode)
    found = [0 for _ in odds.judged.letters]
    for look in answered:
        found = [ahead + worth for ahead, worth in zip(found, worths[look])]
    return found
