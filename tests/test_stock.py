"""Point 110: a stock that shall never be below 0, shown by a larder, a ruin or a leak."""

import itertools
import random
import unittest

from roundpromises.errors import BadGains, BadMode, BadRounds, BadStock, BadWorks
from roundpromises.ever import good_modes
from roundpromises.forms import ALWAYS
from roundpromises.one import is_quarrel, keeps
from roundpromises.stock import is_larder, is_leak, is_ruin, larder, leak, least_stock, ruin, stock_for
from roundpromises.tables import constant
from roundpromises.works import Works, task_of
from tests.calls_works import CASES, EXACT, SOON, STILL, WORKS
from tests.helpers import JUNK, Case, times_of
from tests.small import ANY, Rounds, free_works, is_fine_round, letter_left, works_by

SEEDS = range(80)
SHARP = EXACT.with_slip(0)
GAINS = {"x": 1, "y": 1, "other": 0}
LOSSES = {"x": -1, "y": 1, "other": 0}


def gains_for(works, seed):
    chance = random.Random(seed)
    return {letter: chance.choice([-9, -2, -1, 0, 1, 2, 5, 9]) for letter in works.letters}


def tried():
    for seed in SEEDS:
        works = works_by(seed)
        for gains in (gains_for(works, seed), gains_for(works, seed + 1000)):
            yield works, gains
        free = free_works(seed)
        yield free, gains_for(free, seed)


def ruined(works, gains, thing, key):
    """The letters that are barred at a key of a ruin, by the words of the document."""
    mode, number = key
    found = []
    for letter, to in works.ways(mode).items():
        then = (to, number + gains[letter])
        if then[1] < 0 or (then in thing and thing[then][0] < thing[key][0]):
            found.append(letter)
    return found


def leaked(works, gains, thing, mode):
    found = []
    for letter, to in works.ways(mode).items():
        if to in thing and len(thing) * gains[letter] + thing[to][0] < thing[mode][0]:
            found.append(letter)
    return found


def wasted(works, gains, thing, mode):
    found = []
    for letter, to in works.ways(mode).items():
        if to not in thing or thing[mode][0] + gains[letter] < thing[to][0]:
            found.append(letter)
    return found


def answered(works, mode, quarrel):
    """For each time that is answered, the environment, and the letter if no promise is broken."""
    for time, environment in quarrel[1].items():
        if is_fine_round(works, mode, environment, time):
            yield letter_left(works, environment, time)


class Least(Case):
    def follow(self, works, gains):
        """For each mode the least stock that does, from all courses over modes and numbers that are not cut off.

        No stock that is needed is greater than 9 * (len(works) - 1); so more than that need not be told apart.
        """
        rounds = Rounds(works)
        most = 9 * len(works)
        alive = {(mode, number) for mode in range(len(works)) for number in range(most + 1)}
        left = None
        while left != alive:
            left = alive
            alive = {key for key in left if self.lives(rounds, gains, left, key, most)}
        return [self.least(alive, mode) for mode in range(len(works))]

    def lives(self, rounds, gains, alive, key, most):
        mode, number = key
        for letters in rounds.options[mode]:
            ends = [(to, number + gains[letter]) for letter, to in rounds.goes(mode, letters)]
            if all(end >= 0 and (to, min(end, most)) in alive for to, end in ends):
                return True
        return False

    def least(self, alive, mode):
        return min((number for at, number in alive if at == mode), default=None)

    def test_all_courses_of_small_works(self):
        found = set()
        for works, gains in tried():
            wanted = self.follow(works, gains)
            self.same([least_stock(works, gains, mode) for mode in range(len(works))], wanted)
            self.assertTrue(all(stock is None or stock <= 9 * (len(works) - 1) for stock in wanted))
            found |= set(wanted)
            self.judge(works, gains, wanted)
        self.assertTrue({None, 0, 2, 9} <= found, found)

    def judge(self, works, gains, stocks):
        if stocks[0] is None:
            self.assertIsNone(larder(works, gains))
            self.judge_leak(works, gains, [mode for mode, stock in enumerate(stocks) if stock is None])
        else:
            self.assertIsNone(leak(works, gains))
            self.judge_larder(works, gains, stocks)
        for stock in (0, 1, 40):
            told = ruin(works, gains, stock)
            if stocks[0] is not None and stocks[0] <= stock:
                self.assertIsNone(told)
            else:
                self.judge_ruin(works, gains, stock, told)

    def judge_larder(self, works, gains, stocks):
        told = larder(works, gains)
        self.same({mode: pair[0] for mode, pair in told.items()}, {m: s for m, s in enumerate(stocks) if s is not None})
        self.assertIs(is_larder(works, gains, told), True)
        for mode, (_, table) in told.items():
            self.assertTrue(keeps(task_of(works, mode, wasted(works, gains, told, mode)), table))

    def judge_leak(self, works, gains, modes):
        told = leak(works, gains)
        self.same(list(told), modes)
        self.assertIs(is_leak(works, gains, told), True)
        for mode, (level, quarrel) in told.items():
            self.assertTrue(is_quarrel(task_of(works, mode, leaked(works, gains, told, mode)), quarrel))
            # Levels fall more than sizes of gains rise: so on each way back to a mode the gains sum up to less than 0.
            for letter in answered(works, mode, quarrel):
                self.assertLess(len(told) * gains[letter] + told[works.ways(mode)[letter]][0], level)

    def judge_ruin(self, works, gains, stock, told):
        self.assertIn((0, stock), told)
        self.assertEqual(list(told), sorted(told))
        self.assertIs(is_ruin(works, gains, stock, told), True)
        for key, (rank, quarrel) in told.items():
            mode, number = key
            self.assertTrue(is_quarrel(task_of(works, mode, ruined(works, gains, told, key)), quarrel))
            for letter in answered(works, mode, quarrel):
                if number + gains[letter] >= 0:
                    self.assertLess(told[works.ways(mode)[letter], number + gains[letter]][0], rank)

    def test_all_gains_0(self):
        for seed in SEEDS:
            works = works_by(seed)
            gains = dict.fromkeys(works.letters, 0)
            good = good_modes(works)
            for mode in range(len(works)):
                self.same(least_stock(works, gains, mode), 0 if mode in good else None)
                self.same(stock_for(works, gains, mode, 40), 0 if mode in good else None)

    def test_gains_of_9_and_less(self):
        free = Works(EXACT, [("x", (("rings", "b"),))], [])
        for gain, other in itertools.product((-9, -1, 0, 9), repeat=2):
            wanted = None if min(gain, other) < 0 else 0
            self.same(least_stock(free, {"x": gain, "other": other}, 0), wanted)
        # One round may cost 9 and leads to where nothing is lost any more.
        cases = [("x", (("rings", "b"),))]
        rule = ("r", ("then", ALWAYS, ("one", "other")), ((), ("never",)))
        self.same(least_stock(Works(EXACT, cases, [rule]), {"x": 9, "other": 0}, 0), 0)
        far = Works(SHARP, [("x", (("rings", "out"),))], [("r", ("empty",), ((), ("first", ("start",), 0, 0)))])
        self.same([least_stock(far, {"x": -9, "other": 0}, mode) for mode in (0, 1)], [9, 0])
        self.same([stock_for(far, {"x": -9, "other": 0}, 0, rounds) for rounds in (0, 1, 2, 40)], [0, 9, 9, 9])

    def test_the_greatest_stock(self):
        """Sixteen modes, fifteen of which cost 9 each: 135."""
        parts = {1: ("either", ("empty",), ANY)}
        for many in (2, 4, 8):
            parts[many] = ("then", parts[many // 2], parts[many // 2])
        short = ("then", parts[8], ("then", parts[4], parts[2]))
        works = Works(SHARP, [("x", (("rings", "out"),))], [("r", short, ((), ("first", ("start",), 0, 0)))])
        gains = {"x": -9, "other": 0}
        self.same([least_stock(works, gains, mode) for mode in range(16)], [9 * left for left in range(15, -1, -1)])
        self.assertIs(is_larder(works, gains, larder(works, gains)), True)
        self.assertIs(is_ruin(works, gains, 40, ruin(works, gains, 40)), True)


class Rounded(Case):
    def need(self, rounds, gains, mode, left, memo):
        """The least stock for so many rounds, over all options, one round behind the other."""
        if left == 0:
            return 0
        if (mode, left) not in memo:
            found = []
            for letters in rounds.options[mode]:
                needs = []
                for letter, to in rounds.goes(mode, letters):
                    behind = self.need(rounds, gains, to, left - 1, memo)
                    needs.append(None if behind is None else max(0, behind - gains[letter]))
                if None not in needs:
                    found.append(max(needs, default=0))
            memo[mode, left] = min(found, default=None)
        return memo[mode, left]

    def test_stock_for(self):
        for works, gains in tried():
            rounds, memo = Rounds(works), {}
            for mode in range(len(works)):
                told = [stock_for(works, gains, mode, left) for left in (0, 1, 2, 3, 7, 39, 40)]
                wanted = [self.need(rounds, gains, mode, left, memo) for left in (0, 1, 2, 3, 7, 39, 40)]
                self.same(told, wanted)
                ascending = [999 if stock is None else stock for stock in told]
                self.assertEqual(ascending, sorted(ascending))
                least = least_stock(works, gains, mode)
                self.assertTrue(least is None or max(ascending) <= least)

    def test_by_hand(self):
        self.same([least_stock(WORKS, gains, 0) for gains in (GAINS, LOSSES)], [0, None])
        self.same([least_stock(WORKS, gains, 1) for gains in (GAINS, LOSSES)], [None, None])
        self.same([stock_for(WORKS, LOSSES, 0, rounds) for rounds in (0, 1, 2, 40)], [0, 1, 2, 40])
        self.same([stock_for(WORKS, LOSSES, 1, rounds) for rounds in (0, 1)], [0, None])


class Ruins(Case):
    def test_stock_40(self):
        told = ruin(WORKS, LOSSES, 40)
        self.same(told[0, 40][0], 41)
        self.assertIs(is_ruin(WORKS, LOSSES, 40, told), True)
        self.assertIs(is_ruin(WORKS, LOSSES, 39, told), True)
        self.assertIs(is_ruin(WORKS, LOSSES, 0, ruin(WORKS, LOSSES, 0)), True)
        self.assertIs(is_ruin(WORKS, LOSSES, 1, ruin(WORKS, LOSSES, 0)), False)

    def test_a_long_way(self):
        """First up by 9 and more, then down by 1 each round."""
        form = ("not", ("then", ("any",), ("then", ("any",), ALWAYS)))
        cases = [("x", (("rings", "out"),))]
        works = Works(
            SHARP, cases, [("r", form, ((), ("first", ("start",), 0, 0))), ("s", ("not", form), ((), ("never",)))]
        )
        gains = {"x": 9, "other": -1}
        told = ruin(works, gains, 40)
        self.same(told[0, 40][0], 2 + 40 + 18 + 1)
        self.assertIs(is_ruin(works, gains, 40, told), True)

    def test_wrong(self):
        told = ruin(WORKS, LOSSES, 1)
        (rank, quarrel), (other_rank, other) = told[0, 1], told[0, 0]
        good = {(0, 1): (rank, quarrel), (0, 0): (other_rank, other)}
        every = {**good, **{key: pair for key, pair in told.items()}}
        self.assertIs(is_ruin(WORKS, LOSSES, 1, every), True)
        for changed in (
            {(0, True): (rank, quarrel), (0, 0): (other_rank, other)},
            {(0, 1): (rank, quarrel), (0, False): (other_rank, other)},
            {(False, 1): (rank, quarrel), (0, 0): (other_rank, other)},
            {**every, (2, 0): (1, other)},
            {**every, (0, -1): (1, other)},
            {**every, (0, 0, 0): (1, other)},
            {**every, 0: (1, other)},
            {**every, (0, None): (1, other)},
            {**every, (0, 1): [rank, quarrel]},
            {**every, (0, 1): (True, quarrel)},
            {**every, (0, 0): (True, other)},
            {**every, (0, 0): (0, other)},
            {**every, (0, 1): (1, quarrel)},
            {**every, (0, 1): (rank, None)},
            {**every, (0, 1): (rank, (quarrel[0], {}))},
            {key: pair for key, pair in every.items() if key != (0, 1)},
            {key: pair for key, pair in every.items() if key != (0, 0)},
            *JUNK,
        ):
            self.assertIs(is_ruin(WORKS, LOSSES, 1, changed), False)


class Wrong(Case):
    def test_larders(self):
        works = Works(SHARP, CASES, [STILL])
        gains = {"x": -1, "y": 0, "other": 1}
        table = constant(1, 2, None)
        self.assertIs(is_larder(works, gains, {0: (0, table)}), True)
        self.assertIs(is_larder(works, gains, {1: (5, table), 0: (6, table)}), True)
        self.assertIs(is_larder(works, gains, {0: (0, table), 1: (10**11, table)}), True)
        self.assertIs(is_larder(works, gains, {1: (5, table), 0: (7, table)}), False)
        for first in (
            table,
            (table, 0),
            [0, table],
            (0, table, 0),
            (True, table),
            (False, table),
            (-1, table),
            (None, table),
            (0, None),
            (0, constant(1, 3, None)),
            (0, constant(2, 2, None)),
            (0, constant(1, 2, 2)),
        ):
            self.assertIs(is_larder(works, gains, {0: first}), False)
        for thing in (*JUNK, {False: (0, table)}, {0: (0, table), 2: (0, table)}, {1: (0, table)}, [(0, table)]):
            self.assertIs(is_larder(works, gains, thing), False)
        # y costs nothing, but leads to a key that wants more.
        costly = {0: (0, constant(1, 2, 0)), 1: (1, table)}
        self.assertIs(is_larder(works, gains, costly), False)
        self.assertIs(is_larder(works, gains, {**costly, 0: (1, constant(1, 2, 0))}), True)
        self.assertIs(is_larder(works, gains, {0: (1, constant(1, 2, 0))}), False)

    def test_leaks(self):
        told = leak(WORKS, LOSSES)
        self.same(list(told), [0, 1])
        (level, quarrel), (low, other) = told[0], told[1]
        self.assertIs(is_leak(WORKS, LOSSES, {1: (low - 7, other), 0: (level - 7, quarrel)}), True)
        for first in (
            quarrel,
            [level, quarrel],
            (level, quarrel, 0),
            (None, quarrel),
            (False, quarrel),
            (level, None),
            (level, (quarrel[0], {})),
        ):
            self.assertIs(is_leak(WORKS, LOSSES, {0: first, 1: told[1]}), False)
        for thing in (
            *JUNK,
            {1: told[1]},
            {False: told[0], 1: told[1]},
            {0: told[0], True: told[1]},
            {**told, 2: told[1]},
        ):
            self.assertIs(is_leak(WORKS, LOSSES, thing), False)
        self.assertIs(is_leak(WORKS, GAINS, told), False)

    def test_levels_of_leaks(self):
        """All levels near each other for two modes: judged by the words of the document."""
        works = Works(EXACT, CASES, [SOON, STILL])
        silent = ((None,), dict.fromkeys(times_of(2), ((None,), (0,), 0)))
        quarrels = [silent, leak(WORKS, LOSSES)[0][1], leak(WORKS, LOSSES)[1][1]]
        for gains in (LOSSES, {"x": -2, "y": 3, "other": -1}, {"x": 0, "y": 0, "other": -1}):
            for one, other in itertools.product(range(-4, 5), repeat=2):
                for quarrel, second in itertools.product(quarrels, repeat=2):
                    for thing in ({0: (one, quarrel), 1: (other, second)}, {0: (one, quarrel)}):
                        wanted = all(
                            is_quarrel(task_of(works, mode, leaked(works, gains, thing, mode)), pair[1])
                            for mode, pair in thing.items()
                        )
                        self.assertIs(is_leak(works, gains, thing), wanted)

    def test_gains(self):
        for gains in (
            *JUNK,
            {"x": 0, "y": 0},
            {"x": 0, "y": 0, "other": 0, "z": 0},
            {"x": 0, "y": 0, "z": 0},
            {"x": 10, "y": 0, "other": 0},
            {"x": -10, "y": 0, "other": 0},
            {"x": True, "y": 0, "other": 0},
            {"x": None, "y": 0, "other": 0},
            [("x", 0), ("y", 0), ("other", 0)],
        ):
            for function, *more in (
                (least_stock, 9),
                (stock_for, 9, 99),
                (larder,),
                (is_larder, None),
                (ruin, 99),
                (is_ruin, 99, None),
                (leak,),
                (is_leak, None),
            ):
                self.refused(BadGains, function, WORKS, gains, *more)
                self.refused(BadWorks, function, EXACT, gains, *more, part=None)

    def test_numbers(self):
        for mode in (None, True, -1, 2, "0"):
            self.refused(BadMode, least_stock, WORKS, GAINS, mode)
            self.refused(BadMode, stock_for, WORKS, GAINS, mode, 41)
        for number in (None, True, False, -1, 41, "0", 10**11):
            self.refused(BadRounds, stock_for, WORKS, GAINS, 0, number)
            self.refused(BadStock, ruin, WORKS, GAINS, number)
            self.refused(BadStock, is_ruin, WORKS, GAINS, number, None)


if __name__ == "__main__":
    unittest.main()
