"""A stock that changes by the letter of each round, and shall never be below 0."""

from roundpromises.again import are_worths
from roundpromises.checks import is_number, is_tuple_of, is_within
from roundpromises.errors import BadGains, BadRounds, BadStock
from roundpromises.modes import can_bar, is_quarrel_with, is_table_with, letters_where, quarrel_with, table_with
from roundpromises.ranks import is_ranked
from roundpromises.works import are_modes, check_mode, check_works, is_mode

MOST_GAIN = 9
MOST_ROUNDS = 40
MOST_STOCK = 40


def least_stock(works, gains, mode):
    """The least stock that does for a mode; None if none does."""
    check_works(works)
    check_gains(works, gains)
    check_mode(works, mode)
    return least_stocks(works, gains_of(works, gains))[mode]


def stock_for(works, gains, mode, rounds):
    """The least stock with which so many rounds go well from a mode on; None if there is none."""
    check_works(works)
    check_gains(works, gains)
    check_mode(works, mode)
    check_rounds(rounds)
    changes = gains_of(works, gains)
    stocks = no_stocks(works)
    for _ in range(rounds):
        stocks = stocks_ahead(works, changes, stocks, no_stocks(works))
    return stocks[mode]


def larder(works, gains):
    """The larder of just all modes for which some stock does; None if none does for mode 0."""
    check_works(works)
    check_gains(works, gains)
    changes = gains_of(works, gains)
    stocks = least_stocks(works, changes)
    if stocks[0] is None:
        return None
    found = {}
    for mode, stock in enumerate(stocks):
        if stock is not None:
            found[mode] = (stock, table_with(works, mode, wasting(works, changes, stocks, mode, stock)))
    return found


def is_larder(works, gains, thing):
    """Tell whether any value is a larder of a works."""
    check_works(works)
    check_gains(works, gains)
    if not are_modes(works, thing) or not all([is_stocked(pair) for pair in thing.values()]):
        return False
    changes = gains_of(works, gains)
    stocks = [thing[mode][0] if mode in thing else None for mode in range(len(works))]
    barred = {mode: wasting(works, changes, stocks, mode, stocks[mode]) for mode in thing}
    return all([is_table_with(works, mode, barred[mode], pair[1]) for mode, pair in thing.items()])


def ruin(works, gains, stock):
    """A ruin of a stock; None if this stock does for mode 0."""
    check_works(works)
    check_gains(works, gains)
    check_stock(stock)
    changes = gains_of(works, gains)
    if not is_short(least_stocks(works, changes), 0, stock):
        return None
    ranks = ruin_ranks(works, changes, stock)
    found = {}
    for key in sorted(ranks):
        found[key] = (ranks[key], quarrel_with(works, key[0], ruining(works, changes, ranks, key)))
    return found


def is_ruin(works, gains, stock, thing):
    """Tell whether any value is a ruin of a stock."""
    check_works(works)
    check_gains(works, gains)
    check_stock(stock)
    if not isinstance(thing, dict) or not all([is_mode_with_stock(works, key) for key in thing.keys()]):
        return False
    if (0, stock) not in thing or not all([is_ranked(pair) for pair in thing.values()]):
        return False
    changes = gains_of(works, gains)
    ranks = {key: pair[0] for key, pair in thing.items()}
    barred = {key: ruining(works, changes, ranks, key) for key in ranks}
    return all([is_quarrel_with(works, key[0], barred[key], pair[1]) for key, pair in thing.items()])


def leak(works, gains):
    """A leak of just all modes for which no stock does; None if some stock does for mode 0."""
    check_works(works)
    check_gains(works, gains)
    changes = gains_of(works, gains)
    stocks = least_stocks(works, changes)
    if stocks[0] is not None:
        return None
    levels = leak_levels(works, changes, [mode for mode, stock in enumerate(stocks) if stock is None])
    return {mode: (levels[mode], quarrel_with(works, mode, leaking(works, changes, levels, mode))) for mode in levels}


def is_leak(works, gains, thing):
    """Tell whether any value is a leak of a works."""
    check_works(works)
    check_gains(works, gains)
    if not are_modes(works, thing):
        return False
    if not all([is_tuple_of(pair, 2) and is_number(pair[0]) for pair in thing.values()]):
        return False
    changes = gains_of(works, gains)
    levels = {mode: pair[0] for mode, pair in thing.items()}
    barred = {mode: leaking(works, changes, levels, mode) for mode in levels}
    return all([is_quarrel_with(works, mode, barred[mode], pair[1]) for mode, pair in thing.items()])


def check_gains(works, gains):
    """Refuse what are no gains of a works."""
    if not are_worths(gains, works.letters, -MOST_GAIN, MOST_GAIN):
        raise BadGains("gains are a dict from just all letters to numbers from -9 to 9")


def check_rounds(rounds):
    """Refuse what is no number of rounds."""
    if not is_within(rounds, 0, MOST_ROUNDS):
        raise BadRounds("rounds is a number from 0 to 40")


def check_stock(stock):
    """Refuse what is no number of a stock that can be asked about."""
    if not is_within(stock, 0, MOST_STOCK):
        raise BadStock("a stock is a number from 0 to 40")


def is_stocked(thing):
    """Tell whether any value is a pair of a number from 0 on and something else."""
    return is_tuple_of(thing, 2) and is_number(thing[0]) and thing[0] >= 0


def is_mode_with_stock(works, thing):
    """Tell whether any value is a pair of a mode and a number from 0 on."""
    return is_tuple_of(thing, 2) and is_mode(works, thing[0]) and is_number(thing[1]) and thing[1] >= 0


def gains_of(works, gains):
    """The gains in the order of the letters."""
    return [gains[letter] for letter in works.letters]


def no_stocks(works):
    """The stock 0 for each mode."""
    return [0 for _ in range(len(works))]


def is_short(stocks, mode, number):
    """Tell whether a number is less than the stock of a mode; stock None is greater than all numbers."""
    return stocks[mode] is None or number < stocks[mode]


def wasting(works, changes, stocks, mode, number):
    """The letters that lead from a mode, with a number, to modes for which the stock is then too little."""
    return letters_where([is_short(stocks, to, number + gain) for to, gain in zip(works._ways[mode], changes)])


def stocks_ahead(works, changes, stocks, least):
    """For each mode the least stock, not below its least one, with which one round leads to enough of the stocks."""
    found = []
    for mode in range(len(works)):
        does = None
        if least[mode] is not None:
            does = stock_ahead(works, changes, stocks, mode, least[mode])
        found.append(does)
    return found


def stock_ahead(works, changes, stocks, mode, least):
    """The least stock of one mode, from a number on, as stocks_ahead tells; None if there is none."""
    # With other numbers than these just the same letters are barred as with the next lesser one of these.
    ends = [stocks[to] - gain for to, gain in zip(works._ways[mode], changes) if stocks[to] is not None]
    for number in sorted(set([least] + [end for end in ends if end > least])):
        if can_bar(works, mode, wasting(works, changes, stocks, mode, number)):
            return number
    return None


def least_stocks(works, changes):
    """For each mode the least stock that does; None if none does."""
    most = MOST_GAIN * (len(works) - 1)
    stocks = no_stocks(works)
    ahead = None
    while ahead != stocks:
        ahead = stocks
        stocks = [
            None if stock is None or stock > most else stock for stock in stocks_ahead(works, changes, ahead, ahead)
        ]
    return stocks


def ruin_ranks(works, changes, stock):
    """The ranks of all pairs of a mode and a number to which a ruin of a stock may lead.

    The rank is the least number of rounds for which the number is too little.
    """
    levels = [no_stocks(works)]
    while not is_short(levels[-1], 0, stock):
        levels.append(stocks_ahead(works, changes, levels[-1], levels[-1]))
    found = {(0, stock): len(levels) - 1}
    left = [(0, stock)]
    while left:
        mode, number = left.pop()
        below = levels[found[(mode, number)] - 1]
        for to, gain in zip(works._ways[mode], changes):
            key = (to, number + gain)
            if key[1] >= 0 and is_short(below, to, key[1]) and key not in found:
                found[key] = first_short(levels, to, key[1])
                left.append(key)
    return found


def first_short(levels, mode, number):
    """The first of the levels whose stock for a mode is greater than a number."""
    return [is_short(stocks, mode, number) for stocks in levels].index(True)


def ruining(works, changes, ranks, key):
    """The letters that take a number below 0, or lead to a pair with a lesser rank."""
    mode, number = key
    found = []
    for to, gain in zip(works._ways[mode], changes):
        then = (to, number + gain)
        found.append(then[1] < 0 or (then in ranks and ranks[then] < ranks[key]))
    return letters_where(found)


def leaking(works, changes, levels, mode):
    """The letters that leak from a mode."""
    found = []
    for to, gain in zip(works._ways[mode], changes):
        found.append(to in levels and len(levels) * gain + levels[to] < levels[mode])
    return letters_where(found)


def leak_levels(works, changes, modes):
    """Levels with which the inputs can lead round by round through letters that leak, for all these modes.

    They are raised from 0 on until they do; the inputs have a stock of their own in them, so to speak.
    """
    levels = {mode: 0 for mode in modes}
    ahead = None
    while ahead != levels:
        ahead = dict(levels)
        for mode in modes:
            levels[mode] = least_level(works, changes, levels, mode)
    return levels


def least_level(works, changes, levels, mode):
    """The least level of a mode, from its own on, with which it can be forced to leak to the others."""
    size = len(levels)
    ends = [size * gain + levels[to] + 1 for to, gain in zip(works._ways[mode], changes) if to in levels]
    found = levels[mode]
    for level in sorted(set([found] + [end for end in ends if end > found])):
        if not can_bar(works, mode, leaking(works, changes, {**levels, mode: level}, mode)):
            return level
    return found
