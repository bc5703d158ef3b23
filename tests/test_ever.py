"""Point 90: what can be kept for ever, shown by a strategy or by a doom."""

import itertools
import unittest

from roundpromises.errors import BadEnvironment, BadMode, BadMoment, BadWorks
from roundpromises.ever import (
    doom,
    good_modes,
    is_doom,
    is_strategy,
    kept_task,
    keeps_round,
    lasts,
    late_strategy,
    rank,
    round_letter,
    strategy,
)
from roundpromises.forms import ALWAYS
from roundpromises.one import against, earliest, keeps, latest
from roundpromises.sights import Panel, arrivals_of, environments
from roundpromises.tables import constant
from roundpromises.works import Works, task_of
from tests.calls_works import CASES, EXACT, LOST, SOON, STILL, WORKS
from tests.helpers import JUNK, Case, times_of
from tests.small import ANY, Rounds, free_works, is_fine_round, letter_left, tables_of, works_by

NEVER = ((), ("never",))
MUST = ((), ("first", ("start",), 0, 0))
SEEDS = range(100)
ALL = {seed: works_by(seed) for seed in SEEDS}
ALL.update({seed + 1000: free_works(seed) for seed in SEEDS[:30]})


def behind(works, letters):
    return [letter for letter in works.letters if letter in letters]


def leaving(works, mode, wanted):
    """The letters that lead from a mode to one that is wanted."""
    return [letter for letter, to in works.ways(mode).items() if wanted(to)]


class Good(Case):
    def test_greatest_closed_set_of_all_sets(self):
        lost = 0
        for works in ALL.values():
            rounds = Rounds(works)
            best = set()
            for many in range(len(works) + 1):
                for modes in itertools.combinations(range(len(works)), many):
                    if all(self.stays(rounds, mode, modes) for mode in modes):
                        best |= set(modes)
            self.assertTrue(all(self.stays(rounds, mode, best) for mode in best))
            self.same(good_modes(works), tuple(sorted(best)))
            self.assertIs(lasts(works), 0 in best)
            lost += 0 not in best
        self.assertTrue(20 < lost < 80)

    def stays(self, rounds, mode, modes):
        """Whether some Table of all keeps the mode's promises and its letters within the modes."""
        return any(all(to in modes for _, to in rounds.goes(mode, letters)) for letters in rounds.options[mode])

    def test_ranks(self):
        found = set()
        for works in ALL.values():
            rounds = Rounds(works)
            ranks = {}
            for level in range(1, len(works) + 2):
                left = [mode for mode in range(len(works)) if mode not in ranks]
                ranks.update({mode: level for mode in left if not self.stays(rounds, mode, left)})
            for mode in range(len(works)):
                self.same(rank(works, mode), ranks.get(mode))
            self.assertTrue(all(level <= len(works) for level in ranks.values()))
            found |= set(ranks.values())
        self.assertTrue({1, 2, 3} <= found)

    def test_kept_task(self):
        for works in list(ALL.values())[::5]:
            for mode in range(len(works)):
                barred = leaving(works, mode, lambda to: to not in good_modes(works))
                self.assertTrue(kept_task(works, mode) == task_of(works, mode, barred))

    def test_by_hand(self):
        self.same((good_modes(WORKS), rank(WORKS, 0), rank(WORKS, 1), lasts(WORKS)), ((0,), None, 1, True))
        self.same((good_modes(LOST), rank(LOST, 0), rank(LOST, 1), lasts(LOST)), ((), 2, 1, False))
        self.same(kept_task(WORKS, 0).barred, ("y",))
        self.same(kept_task(LOST, 1).barred, ("other", "x", "y"))


class Strategies(Case):
    def test_strategy_is_told_of_all_good_modes(self):
        for works in ALL.values():
            if lasts(works):
                early, late = strategy(works), late_strategy(works)
                self.same((tuple(early), tuple(late)), (good_modes(works),) * 2)
                for mode in early:
                    self.assertTrue(early[mode] == earliest(kept_task(works, mode)))
                    self.assertTrue(late[mode] == latest(kept_task(works, mode)))
                self.assertIs(is_strategy(works, early), True)
                self.assertIs(is_strategy(works, late), True)
                self.assertIsNone(doom(works))
            else:
                self.assertIsNone(strategy(works))
                self.assertIsNone(late_strategy(works))
                self.assertIs(is_doom(works, doom(works)), True)

    def test_led_by_a_strategy_no_promise_is_broken(self):
        for works in list(ALL.values())[::4]:
            if lasts(works):
                for tables in (strategy(works), late_strategy(works)):
                    self.lead(works, tables)

    def lead(self, works, tables):
        """All courses: the modes that are reached, whatever rings and delays come."""
        left, seen = [0], {0}
        while left:
            mode = left.pop()
            for environment in environments(works.panel):
                time = tables[mode].answer(arrivals_of(works.panel, environment))
                self.assertTrue(is_fine_round(works, mode, environment, time))
                to = works.ways(mode)[letter_left(works, environment, time)]
                if to not in seen:
                    seen.add(to)
                    left.append(to)

    def test_all_strategies_of_small_works(self):
        """All dicts from modes to Tables of length 1."""
        judged = set()
        for seed in SEEDS:
            works = works_by(seed, most_rules=2, lengths=(1,))
            if len(works) <= 2:
                rounds = Rounds(works)
                for many in range(1, len(works) + 1):
                    for modes in itertools.combinations(range(len(works)), many):
                        for tables in itertools.product(tables_of(1)[::3], repeat=many):
                            judged.add(self.judge(rounds, dict(zip(modes, tables))))
        self.assertEqual(judged, {True, False})

    def judge(self, rounds, thing):
        fits = 0 in thing
        for mode, table in thing.items():
            letters = rounds.left_by(mode, table)
            fits = fits and letters is not None and all(to in thing for _, to in rounds.goes(mode, letters))
        self.assertIs(is_strategy(rounds.works, thing), fits)
        return fits

    def test_wrong(self):
        kept = strategy(WORKS)
        table = kept[0]
        for thing in (
            *JUNK,
            {},
            [table],
            {False: table},
            {0: table, True: table},
            {0: table, 2: table},
            {0: table, -1: table},
            {0: table, "a": table},
            {0: table, None: table},
            {0: [table]},
            {0: None},
            {0: constant(1, 3, None)},
            {0: constant(2, 2, None)},
            {0: constant(1, 2, None)},
            {0: table, 1: table},
            list(kept.items()),
        ):
            self.assertIs(is_strategy(WORKS, thing), False)
        self.assertIs(is_strategy(WORKS, {0: table}), True)
        every = Works(EXACT, CASES, [STILL])
        self.assertIs(is_strategy(every, {1: constant(1, 2, None), 0: constant(1, 2, 0)}), True)
        self.assertIs(is_strategy(every, {0: constant(1, 2, 0)}), False)
        self.assertIs(is_strategy(every, {1: constant(1, 2, None)}), False)


class Dooms(Case):
    def test_led_by_a_doom_a_promise_is_broken_within_the_rank(self):
        tried = 0
        for works in ALL.values():
            told = doom(works)
            if told is not None:
                tried += 1
                self.same(tuple(told), tuple(mode for mode in range(len(works)) if mode not in good_modes(works)))
                self.same({mode: pair[0] for mode, pair in told.items()}, {mode: rank(works, mode) for mode in told})
                self.lead(works, told)
        self.assertGreater(tried, 20)

    def lead(self, works, told):
        """Whatever is answered to the arrivals of the quarrel, the rank falls or a promise is broken."""
        for mode, (level, quarrel) in told.items():
            barred = leaving(works, mode, lambda to: to in told and told[to][0] < level)
            for time in times_of(works.panel.length):
                table = constant(1, works.panel.length, time)
                environment = against(task_of(works, mode, barred), quarrel, table)
                if is_fine_round(works, mode, environment, time):
                    to = works.ways(mode)[letter_left(works, environment, time)]
                    self.assertLess(told[to][0], level)

    def test_wrong(self):
        told = doom(LOST)
        self.same([pair[0] for pair in told.values()], [2, 1])
        (first, quarrel), (second, other) = told[0], told[1]
        for thing in (
            *JUNK,
            {0: (first, quarrel)},
            {1: (second, other)},
            {False: (first, quarrel), 1: (second, other)},
            {0: (first, quarrel), True: (second, other)},
            {0: (first, quarrel), 1: (second, other), 2: (second, other)},
            {0: [first, quarrel], 1: (second, other)},
            {0: (first, quarrel, 0), 1: (second, other)},
            {0: (True, quarrel), 1: (second, other)},
            {0: (0, quarrel), 1: (second, other)},
            {0: (1, quarrel), 1: (1, other)},
            {0: (first, quarrel), 1: (0, other)},
            {0: (first, quarrel), 1: (True, other)},
            {0: (first, other), 1: (second, quarrel)},
            {0: (first, list(quarrel)), 1: (second, other)},
            {0: (first, None), 1: (second, other)},
        ):
            self.assertIs(is_doom(LOST, thing), False, thing)
        self.assertIs(is_doom(LOST, {1: (10**11, other), 0: (10**11 + 1, quarrel)}), True)
        self.assertIs(is_doom(WORKS, told), False)

    def test_a_quarrel_of_another_task(self):
        one = Works(EXACT, CASES, [SOON, ("no", ALWAYS, NEVER)])
        two = Works(EXACT, CASES, [("must", ALWAYS, MUST), ("no", ALWAYS, NEVER)])
        self.assertIs(is_doom(one, doom(one)), True)
        self.assertIs(is_doom(one, doom(two)), is_doom(one, {0: doom(two)[0]}))
        silent = ((None,), {time: ((None,), (0,), 0) for time in times_of(2)})
        self.assertIs(is_doom(two, {0: (1, silent)}), True)
        self.assertIs(is_doom(one, {0: (1, silent)}), False)


class SixteenModes(Case):
    def test_ranks_up_to_sixteen(self):
        count = ANY
        for _ in range(4):
            count = ("then", count, count)
        works = Works(EXACT, [], [("r", ("many", count), ((("gap", "start", "b", 0),), ("never",)))])
        self.same(good_modes(works), tuple(range(16)))
        # At the beginning, and behind 16, 32 .. rounds, both cannot be kept.
        broken = Works(EXACT, [], [("r", ("many", count), NEVER), ("s", ("many", count), MUST)])
        self.same([rank(broken, mode) for mode in range(16)], self.to_go(broken))
        self.same(sorted(self.to_go(broken)), list(range(1, 17)))
        self.assertIs(is_doom(broken, doom(broken)), True)

    def to_go(self, works):
        clash = [mode for mode in range(len(works)) if len(works.active(mode)) == 2]
        found = []
        for mode in range(len(works)):
            steps = 1
            while mode not in clash:
                mode, steps = works.ways(mode)["other"], steps + 1
            found.append(steps)
        return found


class Rounded(Case):
    def test_round_letter_and_keeps_round(self):
        for works in list(ALL.values())[::6]:
            for environment in environments(works.panel):
                for time in times_of(works.panel.length):
                    self.same(round_letter(works, environment, time), letter_left(works, environment, time))
                    for mode in range(len(works)):
                        wanted = is_fine_round(works, mode, environment, time)
                        self.assertIs(keeps_round(works, mode, environment, time), wanted)

    def test_wrong(self):
        for environment in (None, ((1,), (1,), 0), ((1,), (0,), 2), ((3,), (0,), 0), [(1,), (0,), 0], ((1,), (0,))):
            self.refused(BadEnvironment, round_letter, WORKS, environment, 9)
            self.refused(BadEnvironment, keeps_round, WORKS, 0, environment, 9)
        for moment in (True, -1, 3, "0"):
            self.refused(BadMoment, round_letter, WORKS, ((1,), (0,), 1), moment)
            self.refused(BadMoment, keeps_round, WORKS, 0, ((1,), (0,), 1), moment)
        self.refused(BadMode, keeps_round, WORKS, 2, None, 9)
        self.refused(BadWorks, keeps_round, None, 2, None, 9, part=None)
        for mode in (True, -1, 2, None):
            self.refused(BadMode, rank, WORKS, mode)
            self.refused(BadMode, kept_task, WORKS, mode)
        for function in (good_modes, lasts, strategy, late_strategy, doom):
            self.refused(BadWorks, function, EXACT, part=None)
        for function in (is_strategy, is_doom):
            self.refused(BadWorks, function, EXACT, {}, part=None)

    def test_task_kept_by_the_strategy(self):
        self.assertIs(keeps(kept_task(WORKS, 0), strategy(WORKS)[0]), True)
        panel = Panel(["a", "b"], 8, {"a": (0, 9), "b": (0, 1)}, 0)
        works = Works(panel, [], [("r", ALWAYS, ((), ("first", ("a", "b"), 0, 0)))])
        self.same(lasts(works), False)
        self.assertIs(is_doom(works, doom(works)), True)


if __name__ == "__main__":
    unittest.main()
