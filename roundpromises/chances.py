"""Chances: the greatest weight of what can be kept in a number of rounds, and what shows it."""

from roundpromises.checks import is_number, is_tuple_of, is_within
from roundpromises.errors import BadRounds, BadWeights, TooMany
from roundpromises.looks import lay_of
from roundpromises.machines import check_pair, machine_with
from roundpromises.modes import is_table_for
from roundpromises.odds import best_sums, best_table, bests_of, odds_of, sums_of, table_worths, top_of, waiting_sum
from roundpromises.rows import cut, is_row_of
from roundpromises.stock import check_rounds
from roundpromises.works import check_mode, check_works, is_mode

MOST_WEIGHT = 9
MOST_PAIRS = 24


def whole_weight(works, weights, rounds):
    """The sum of the weights of all lists of so many environments."""
    check_works(works)
    check_weights(works, weights)
    check_rounds(rounds)
    return whole_of(odds_of(works, weights), rounds)


def best_weight(works, weights, mode, rounds):
    """The greatest weight that can be kept from a mode on in so many rounds."""
    check_works(works)
    check_weights(works, weights)
    check_mode(works, mode)
    check_rounds(rounds)
    return bests_of(odds_of(works, weights), rounds)[rounds][mode]


def plan(works, weights, rounds):
    """A dict from the pairs of a mode and how many rounds are left to Tables that keep the greatest weight."""
    check_works(works)
    check_weights(works, weights)
    check_rounds(rounds)
    odds = odds_of(works, weights)
    bests = bests_of(odds, rounds)
    return {(mode, left): best_table(odds, mode, bests[left - 1]) for mode, left in all_pairs(works, rounds)}


def is_plan(works, weights, rounds, thing):
    """Tell whether any value is a plan for so many rounds."""
    check_works(works)
    check_weights(works, weights)
    check_rounds(rounds)
    if not isinstance(thing, dict) or len(thing) != len(works) * rounds:
        return False
    if not all([is_pair_left(works, rounds, key) and is_table_for(works, table) for key, table in thing.items()]):
        return False
    odds = odds_of(works, weights)
    bests = bests_of(odds, rounds)
    for mode, left in all_pairs(works, rounds):
        # The pairs with fewer rounds left were found to reach the best weights, so these count behind the round.
        if reached_by(odds, mode, thing[(mode, left)], bests[left - 1]) != bests[left][mode]:
            return False
    return True


def account(works, weights, rounds):
    """The account for so many rounds in which each number is the least one that it has in any account."""
    check_works(works)
    check_weights(works, weights)
    check_rounds(rounds)
    odds = odds_of(works, weights)
    bests = bests_of(odds, rounds)
    found = {}
    for mode, left in all_pairs(works, rounds):
        sums = best_sums(odds, mode, bests[left - 1])
        for moment, places in enumerate(odds.looks):
            for place in places:
                found[(mode, left, (moment, odds.lay.rows[place]))] = sums[(moment, place)]
    return found


def is_account(works, weights, rounds, thing):
    """Tell whether any value is an account for so many rounds."""
    check_works(works)
    check_weights(works, weights)
    check_rounds(rounds)
    odds = odds_of(works, weights)
    many = sum([len(places) for places in odds.looks])
    if not isinstance(thing, dict) or len(thing) != len(works) * rounds * many:
        return False
    if not all([is_entry(works, rounds, key, number) for key, number in thing.items()]):
        return False
    tops = {(mode, 0): 1 for mode in range(len(works))}
    numbers = {}
    for mode, left in all_pairs(works, rounds):
        numbers[(mode, left)] = numbers_of(odds, thing, mode, left)
        tops[(mode, left)] = top_of(odds, numbers[(mode, left)])
    for mode, left in all_pairs(works, rounds):
        behind = [tops[(to, left - 1)] for to in range(len(works))]
        if not is_enough(odds, mode, behind, numbers[(mode, left)]):
            return False
    return True


def weight_with(works, weights, machine, rounds):
    """The weight that a Machine keeps in so many rounds."""
    check_works(works)
    check_weights(works, weights)
    check_pair(works, machine)
    check_rounds(rounds)
    odds = odds_of(works, weights)
    pairs = [(mode, state) for mode in range(len(works)) for state in range(len(machine))]
    worths = {pair: table_worths(odds, pair[0], machine.states[pair[1]][0]) for pair in pairs}
    kept = {pair: 1 for pair in pairs}
    for _ in range(rounds):
        ahead = kept
        kept = {}
        for mode, state in pairs:
            counts = [ahead[end] for end in zip(works._ways[mode], machine.states[state][1])]
            kept[(mode, state)] = sum([worth * count for worth, count in zip(worths[(mode, state)], counts)])
    return kept[(0, 0)]


def machine_for(works, weights, rounds):
    """A Machine that keeps the greatest weight in so many rounds: its states are what a plan tells apart."""
    check_works(works)
    check_weights(works, weights)
    check_rounds(rounds)
    if rounds == 0:
        raise BadRounds("a machine is made for one round or more")
    if rounds * len(works) > MOST_PAIRS:
        raise TooMany(MOST_PAIRS)
    tables = plan(works, weights, rounds)
    pairs = [(mode, left) for left in reversed(range(1, rounds + 1)) for mode in range(len(works))]
    states = []
    for mode, left in pairs:
        # Behind the last of the rounds any state will do.
        ends = [pairs.index((to, max(1, left - 1))) for to in works._ways[mode]]
        states.append((tables[(mode, left)], ends))
    return machine_with(len(works.panel.inputs), works.panel.length, works.letters, states)


def first_loss(works, weights, mode):
    """The least number of rounds, from 1 on, in which not the whole weight can be kept; None if there is none."""
    check_works(works)
    check_weights(works, weights)
    check_mode(works, mode)
    odds = odds_of(works, weights)
    bests = bests_of(odds, len(works))
    for rounds in range(1, len(works) + 1):
        if bests[rounds][mode] < whole_of(odds, rounds):
            return rounds
    return None


def check_weights(works, weights):
    """Refuse what are no weights of a works."""
    if not are_weights(weights, works.panel):
        raise BadWeights("weights are a dict from just all rows of the panel to numbers from 0 to 9")


def are_weights(thing, panel):
    """Tell whether any value is a dict from just all rows of a panel to numbers from 0 to 9."""
    lay = lay_of(panel)
    if not isinstance(thing, dict) or len(thing) != len(lay.rows):
        return False
    if not all([is_within(weight, 0, MOST_WEIGHT) for weight in thing.values()]):
        return False
    return all([is_row_of(row, lay.size, lay.length) for row in thing.keys()])


def all_pairs(works, rounds):
    """The ascending list of all pairs of a mode and a number of rounds left, from 1 on."""
    return [(mode, left) for mode in range(len(works)) for left in range(1, rounds + 1)]


def is_pair_left(works, rounds, thing):
    """Tell whether any value is a pair of a mode and a number of rounds left, from 1 on."""
    return is_tuple_of(thing, 2) and is_mode(works, thing[0]) and is_within(thing[1], 1, rounds)


def is_entry(works, rounds, key, number):
    """Tell whether any values are a key of an account and a number for it."""
    if not is_tuple_of(key, 3) or not is_pair_left(works, rounds, key[:2]) or not is_tuple_of(key[2], 2):
        return False
    moment, row = key[2]
    panel = works.panel
    if not is_within(moment, 0, panel.length) or not is_row_of(row, len(panel.inputs), panel.length):
        return False
    return cut(row, moment) == row and is_number(number) and number >= 0


def whole_of(odds, rounds):
    """The weight of all environments, multiplied as often as there are rounds."""
    many = sum([number for _, number in odds.brought[0]]) * (odds.judged.panel.slip + 1)
    found = 1
    for _ in range(rounds):
        found = found * sum(odds.weights) * many
    return found


def reached_by(odds, mode, table, behind):
    """The weight that a Table reaches in a mode, if each mode behind counts as often as told."""
    counts = [behind[to] for to in odds.judged._ways[mode]]
    return sum([worth * count for worth, count in zip(table_worths(odds, mode, table), counts)])


def numbers_of(odds, thing, mode, left):
    """The numbers that an account has for a pair, by looks."""
    found = {}
    for moment, places in enumerate(odds.looks):
        for place in places:
            found[(moment, place)] = thing[(mode, left, (moment, odds.lay.rows[place]))]
    return found


def is_enough(odds, mode, behind, numbers):
    """Tell whether no number of a pair is less than what it must be at least, given the tops behind the round."""
    sums = sums_of(odds, mode, behind)
    for look, number in numbers.items():
        if number < sums[look] or number < waiting_sum(odds, sums, numbers, look):
            return False
    return True
