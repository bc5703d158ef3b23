"""Point 137: how many rounds that are worse than was said can be borne."""

import functools
import itertools
import random
import unittest

from roundpromises.errors import BadMode, BadRounds, BadWide, BadWorks, TooMany
from roundpromises.ever import good_modes, lasts
from roundpromises.forms import ALWAYS
from roundpromises.shocks import armour, bears, breach, is_armour, is_breach
from roundpromises.sights import Panel, arrivals_of, environments, is_environment
from roundpromises.tables import constant
from roundpromises.works import Works
from tests.helpers import JUNK, Case, seen_until, times_of
from tests.small import FORMS, PROMISES, free_works, is_fine_round, letter_left, tables_of, works_by

# a: rung one behind b, or later. The output must ring with b or one behind it, behind so many a's just with it.
CASES = [("a", (("gap", "b", "out", 1),))]
EXACT = Panel(["b"], 2, None, 0)
WIDE = Panel(["b"], 2, {"b": (0, 1)}, 0)
EARLY = (("gap", "b", "start", -1),)
LAX = (EARLY, ("first", ("b",), 0, 1))
STRICT = (EARLY, ("first", ("b",), 0, 0))


def chained(parts):
    """The parts one behind the other, with few levels."""
    if len(parts) == 1:
        return parts[0]
    half = (len(parts) + 1) // 2
    return ("then", chained(parts[:half]), chained(parts[half:]))


def so_many(many):
    """The form of the words with at least so many a's."""
    return chained([ALWAYS] + [("one", "a"), ALWAYS] * many)


def counting(many, panel=EXACT):
    return Works(panel, CASES, [("lax", ALWAYS, LAX), ("strict", so_many(many), STRICT)])


def slip_works(seed):
    """Works whose letters tell when the output rang behind b, or was rung without it."""
    chance = random.Random(seed)
    length = chance.choice((1, 2))
    cases = chance.choice((CASES, [("a", (("gap", "b", "out", 1),)), ("c", (("rings", "out"),))]))
    forms = [form for form in FORMS if form != ALWAYS] + [so_many(2), ("not", so_many(2))]
    rules = [("lax", ALWAYS, chance.choice((LAX, PROMISES[1], PROMISES[7], PROMISES[2])))]
    rules += [("x", chance.choice(forms), chance.choice((STRICT, *PROMISES)))]
    return Works(Panel(["b"], length, {"b": (0, chance.choice((0, 0, 1)))}, 0), cases, rules)


def wides(works):
    """Some panels at least as wide as that of a works."""
    panel = works.panel
    least, greatest = panel.delays[0]
    last = panel.length + 1
    yield Panel(["b"], panel.length, {"b": (least, greatest)}, panel.slip)
    yield Panel(["b"], panel.length, {"b": (least, min(greatest + 1, last))}, panel.slip)
    yield Panel(["b"], panel.length, {"b": (max(least - 1, 0), greatest)}, min(panel.slip + 1, 2))
    yield Panel(["b"], panel.length, {"b": (0, last)}, 2)


@functools.lru_cache(None)
def some():
    found = [works_by(seed) for seed in range(50)] + [free_works(seed) for seed in range(15)]
    found += [slip_works(seed) for seed in range(60)] + [counting(many) for many in range(4)]
    return [(works, wide) for works in found if len(works) <= 6 for wide in wides(works)]


class Game:
    """What each Table of all does in each mode, in rounds that are not strange and in strange ones."""

    def __init__(self, works, wide):
        self.works, self.wide = works, wide
        self.every = environments(wide)
        self.near = [environment for environment in self.every if is_environment(works.panel, environment)]
        self.far = [environment for environment in self.every if environment not in self.near]
        self.arrivals = {environment: arrivals_of(wide, environment) for environment in self.every}
        self.ends = {}
        for mode, environment in itertools.product(range(len(works)), self.every):
            for time in times_of(works.panel.length):
                fits = is_fine_round(works, mode, environment, time)
                to = works.ways(mode)[letter_left(works, environment, time)] if fits else None
                self.ends[mode, environment, time] = to
        self.tables = tables_of(works.panel.length)
        self.options = {mode: self.all_options(mode) for mode in range(len(works))}

    def to(self, mode, environment, time):
        """The mode behind a round; None if a promise is broken."""
        return self.ends[mode, environment, time]

    def all_options(self, mode):
        found = set()
        for table in self.tables:
            answers = table.answers()
            near = frozenset(self.to(mode, one, answers[self.arrivals[one]]) for one in self.near)
            far = frozenset(self.to(mode, one, answers[self.arrivals[one]]) for one in self.far)
            if None not in near:
                found.add((near, None if None in far else far))
        return found

    def borne(self):
        """The greatest set of pairs (mode, number) each of which has a Table that stays in it."""
        most = 2 * len(self.works) + 1
        pairs = {(mode, number) for mode in self.options for number in range(most + 1)}
        left = None
        while left != pairs:
            left = pairs
            pairs = {
                (mode, number)
                for mode, number in left
                if any(self.stays(option, number, left) for option in self.options[mode])
            }
        numbers = {}
        for mode in self.options:
            told = [number for number in range(most + 1) if (mode, number) in pairs]
            numbers[mode] = max(told, default=-1)
            assert told == list(range(numbers[mode] + 1))
        return {mode: None if number == most else number for mode, number in numbers.items()}

    def stays(self, option, number, pairs):
        near, far = option
        if not all((to, number) in pairs for to in near):
            return False
        return number == 0 or (far is not None and all((to, number - 1) in pairs for to in far))


@functools.lru_cache(None)
def games():
    return [Game(works, wide) for works, wide in some()]


class Bears(Case):
    def test_over_all_modes_and_numbers(self):
        found = []
        for game in games():
            wanted = game.borne()
            for mode, number in wanted.items():
                self.same(bears(game.works, game.wide, mode), number)
                self.assertIs(number == -1, mode not in good_modes(game.works))
                # What bears as many as there are modes bears every number.
                self.assertTrue(number is None or number < len(game.works))
            found += wanted.values()
        self.assertTrue({-1, None, 0, 1, 2} <= set(found))
        self.assertGreater(min(found.count(number) for number in (-1, None, 0, 1)), 10)

    def test_by_hand(self):
        for many in range(5):
            works = counting(many)
            self.same([bears(works, WIDE, mode) for mode in range(len(works))], list(range(many, -1, -1)))
            self.same([bears(works, EXACT, mode) for mode in range(len(works))], [None] * len(works))
        # One a that is forgotten behind the next round.
        works = Works(EXACT, CASES, [("lax", ALWAYS, LAX), ("strict", ("then", ALWAYS, ("one", "a")), STRICT)])
        self.same([bears(works, WIDE, mode) for mode in (0, 1)], [1, 0])
        self.same(bears(Works(EXACT, CASES, [("lax", ALWAYS, LAX)]), WIDE, 0), None)
        lost = Works(WIDE, CASES, [("strict", ALWAYS, STRICT)])
        self.same(bears(lost, WIDE, 0), -1)

    def test_an_equal_panel_and_a_wider_one(self):
        for works, _ in some()[::4]:
            told = []
            for wide in wides(works):
                told.append([bears(works, wide, mode) for mode in range(len(works))])
            equal, *others = told
            self.same(equal, [None if mode in good_modes(works) else -1 for mode in range(len(works))])
            for numbers in others:
                # The last one is the widest of all.
                for number, least in zip(numbers, told[-1]):
                    self.assertTrue(number is None or (least is not None and least <= number))

    def test_one_rule_less_bears_no_less(self):
        for works, wide in some()[::3]:
            number = bears(works, wide, 0)
            for name in works.names:
                less = bears(works.without(name), wide, 0)
                self.assertTrue(less is None or (number is not None and number <= less))

    def test_modes_that_bear_many(self):
        works = counting(7)
        self.same(len(works), 8)
        self.same([bears(works, WIDE, mode) for mode in range(8)], list(range(7, -1, -1)))
        self.assertIs(is_armour(works, WIDE, armour(works, WIDE)), True)
        for rounds in (0, 6, 7):
            self.assertIsNone(breach(works, WIDE, rounds))
        for rounds in (8, 9, 40):
            told = breach(works, WIDE, rounds)
            self.same(told[0, rounds][0], 8)
            self.assertIs(is_breach(works, WIDE, rounds, told), True)

    def test_three_inputs(self):
        panel = Panel(["p", "q", "r"], 8, None, 0)
        works = Works(panel, [], [("x", ALWAYS, ((), ("first", ("p", "q", "r"), 0, 1)))])
        self.same(bears(works, panel.with_slip(1), 0), None)
        self.assertIs(is_armour(works, panel.with_slip(1), armour(works, panel.with_slip(1))), True)
        self.refused(TooMany, bears, works, panel.with_slip(2), 0, most=2000)
        works = Works(panel, [], [("x", ALWAYS, ((), ("first", ("p", "q", "r"), 0, 0)))])
        self.same(bears(works, panel.with_slip(1), 0), 0)
        told = breach(works, panel.with_slip(1), 1)
        self.assertIs(is_breach(works, panel.with_slip(1), 1, told), True)
        self.assertIs(is_breach(works, panel.with_slip(1), 2, told), False)


class Armours(Case):
    def test_armour(self):
        tried = 0
        for game in games():
            works, wide = game.works, game.wide
            told = armour(works, wide)
            self.assertIs(told is None, not lasts(works))
            if told is not None:
                tried += 1
                self.same(tuple(told), good_modes(works))
                self.same([number for number, _ in told.values()], [bears(works, wide, mode) for mode in told])
                self.assertIs(is_armour(works, wide, told), True)
                self.lead(game, told)
        self.assertGreater(tried, 60)

    def lead(self, game, told):
        """All that rounds can lead to: pairs of a mode and how many may still be strange."""
        number = told[0][0]
        left = [(0, 3 if number is None else number)]
        seen = set(left)
        while left:
            mode, number = left.pop()
            for environment in game.every if number else game.near:
                time = told[mode][1].answer(game.arrivals[environment])
                to = game.to(mode, environment, time)
                self.assertIsNotNone(to)
                then = (to, number - (environment in game.far))
                if then not in seen:
                    seen.add(then)
                    left.append(then)

    def test_all_armours_of_small_works(self):
        """Dicts from all sets of modes to numbers and Tables of length 1."""
        judged = []
        for seed in range(40):
            works = works_by(seed, most_rules=2, lengths=(1,))
            if len(works) <= 2:
                for wide in itertools.islice(wides(works), 1, 3):
                    judged += self.judge_all(Game(works, wide), random.Random(seed))
        for many in (0, 1):
            panel = Panel(["b"], 1, None, 0)
            judged += self.judge_all(Game(counting(many, panel), panel.with_sight({"b": (0, 1)})), random.Random(many))
        self.assertGreater(min(judged.count(True), judged.count(False)), 100)

    def judge_all(self, game, chance):
        tables = tables_of(1)
        pairs = list(itertools.product((None, 0, 1, 2), tables))
        for modes in ((0,), (0, 1), (1,)):
            if max(modes) < len(game.works):
                for chosen in itertools.product(pairs, repeat=len(modes)):
                    if len(modes) == 1 or chance.random() < 0.1:
                        yield self.judge(game, dict(zip(modes, chosen)))

    def judge(self, game, thing):
        fits = 0 in thing
        for mode, (number, table) in thing.items():
            for environment in game.every:
                is_far = environment in game.far
                if number == 0 and is_far:
                    continue
                wanted = number - is_far if number is not None else None
                to = game.to(mode, environment, table.answer(game.arrivals[environment]))
                fits = fits and to in thing and (
                    thing[to][0] is None or (wanted is not None and thing[to][0] >= wanted)
                )
        self.assertIs(is_armour(game.works, game.wide, thing), fits)
        return fits

    def test_wrong(self):
        works = counting(1)
        told = armour(works, WIDE)
        (first, table), (second, other) = told[0], told[1]
        self.same((first, second), (1, 0))
        for thing in (
            *JUNK,
            {},
            {1: told[1]},
            list(told.items()),
            {False: told[0], 1: told[1]},
            {0: told[0], True: told[1]},
            {0: told[0], 1: told[1], 2: told[1]},
            {0: told[0], 1: told[1], -1: told[1]},
            {0: told[0], 1: told[1], None: told[1]},
            {0: told[0], 1: told[1], "1": told[1]},
            {0: told[0], 1: told[1], (1,): told[1]},
            {0: list(told[0]), 1: told[1]},
            {0: told[0], 1: (second, other, 0)},
            {0: (True, table), 1: told[1]},
            {0: (first, table), 1: (False, other)},
            {0: (first, table), 1: (-1, other)},
            {0: (first, table), 1: ("0", other)},
            {0: (2, table), 1: told[1]},
            {0: (None, table), 1: told[1]},
            {0: told[0], 1: (1, other)},
            {0: told[0], 1: (None, other)},
            {0: (first, None), 1: told[1]},
            {0: (first, constant(1, 3, 0)), 1: told[1]},
            {0: (first, constant(2, 2, 0)), 1: told[1]},
            {0: (first, constant(1, 2, None)), 1: told[1]},
            {0: (first, table.answers()), 1: told[1]},
        ):
            self.assertIs(is_armour(works, WIDE, thing), False, thing)
        self.assertIs(is_armour(works, WIDE, {1: (0, other), 0: (1, table)}), True)
        self.assertIs(is_armour(works, WIDE, {0: (0, table), 1: (0, other)}), True)
        self.assertIs(is_armour(works, EXACT, {0: (None, other), 1: (None, other)}), True)
        self.assertIs(is_armour(works, EXACT, {0: (10**11, other), 1: (10**11, other)}), True)
        for number in (-1, -(10**11), True, False, "1", [1], (1,)):
            self.assertIs(is_armour(works, EXACT, {0: (number, other), 1: (number, other)}), False)
            self.assertIs(is_armour(works, EXACT, {0: (0, other), 1: (number, other)}), False)
        # Answers at once: in no round that is not strange an a is left, so mode 1 need be no key with the number 0.
        self.assertIs(is_armour(works, WIDE, {0: (0, other)}), True)
        self.assertIs(is_armour(works, WIDE, {0: (1, other)}), False)


class Breaches(Case):
    def test_breach(self):
        tried = 0
        for game in games():
            works, wide = game.works, game.wide
            number = bears(works, wide, 0)
            for rounds in (0, 1, 2, 3, 40):
                told = breach(works, wide, rounds)
                self.assertIs(told is None, number is None or number >= rounds)
                if told is not None:
                    tried += 1
                    self.assertEqual(list(told), sorted(told))
                    self.assertIs(is_breach(works, wide, rounds, told), True)
                    self.lead(game, told, rounds)
        self.assertGreater(tried, 200)

    def lead(self, game, told, rounds):
        """Whatever Tables answer: the rank falls until a promise is broken, at most so many rounds being strange."""
        seen, left = set(), [(0, rounds)]
        while left:
            mode, number = left.pop()
            self.assertGreaterEqual(number, 0)
            rank, (arrivals, answers) = told[mode, number]
            self.assertGreaterEqual(rank, 1)
            for time in times_of(game.works.panel.length):
                environment = answers[time]
                heard = game.arrivals[environment]
                self.assertEqual(seen_until(heard, time), seen_until(arrivals, time))
                to = game.to(mode, environment, time)
                if to is not None:
                    then = (to, number - (environment in game.far))
                    self.assertLess(told[then][0], rank)
                    if then not in seen:
                        seen.add(then)
                        left.append(then)

    def test_there_is_an_armour_or_a_breach(self):
        """With a number at 0: an armour may tell less than its modes bear."""
        for game in games()[::3]:
            number = bears(game.works, game.wide, 0)
            told = armour(game.works, game.wide)
            if told is not None and number is not None:
                for less in range(number + 1):
                    lesser = {
                        mode: (less if most is None else min(most, less), table) for mode, (most, table) in told.items()
                    }
                    self.assertIs(is_armour(game.works, game.wide, lesser), True)

    def test_wrong(self):
        works = counting(1)
        told = breach(works, WIDE, 2)
        self.same({key: pair[0] for key, pair in told.items()}, {(0, 2): 2, (1, 1): 1})
        (first, strife), (second, other) = told[0, 2], told[1, 1]
        for thing in (
            *JUNK,
            {},
            list(told.items()),
            {(1, 1): told[1, 1]},
            {(0, 2): told[0, 2]},
            {(0, 1): told[0, 2], (1, 1): told[1, 1]},
            {(False, 2): told[0, 2], (1, 1): told[1, 1]},
            {(0, 2): told[0, 2], (True, 1): told[1, 1]},
            {(0, 2): told[0, 2], (1, True): told[1, 1]},
            {(0, 2): told[0, 2], (1, 0): told[1, 1]},
            {(0, 2): told[0, 2], (1, 2): told[1, 1]},
            {**told, (2, 1): told[1, 1]},
            {**told, (1, -1): told[1, 1]},
            {**told, (1, None): told[1, 1]},
            {**told, 0: told[1, 1]},
            {**told, (1, 1, 1): told[1, 1]},
            {(0, 2): list(told[0, 2]), (1, 1): told[1, 1]},
            {(0, 2): (first, list(strife)), (1, 1): told[1, 1]},
            {(0, 2): (True, strife), (1, 1): told[1, 1]},
            {(0, 2): (2, strife), (1, 1): (True, other)},
            {(0, 2): (2, strife), (1, 1): (0, other)},
            {(0, 2): (1, strife), (1, 1): (1, other)},
            {(0, 2): (2, other), (1, 1): (1, (other[0], {**other[1], 2: ((2,), (0,), 0)}))},
            {(0, 2): (2, strife), (1, 1): (1, None)},
            {(0, 2): (2, strife), (1, 1): (1, (other[0], list(other[1].items())))},
            {(0, 2): (2, strife), (1, 1): (1, (other[0], {**other[1], 3: other[1][2]}))},
            {(0, 2): (2, strife), (1, 1): (1, (list(other[0]), other[1]))},
        ):
            self.assertIs(is_breach(works, WIDE, 2, thing), False, thing)
        self.assertIs(is_breach(works, WIDE, 2, {(1, 1): (7, other), (0, 2): (10**11, strife)}), True)
        for rounds in (0, 1, 3):
            self.assertIs(is_breach(works, WIDE, rounds, told), False)
        # Where no round may be strange, none of the environments is.
        self.assertIs(is_breach(works, WIDE, 1, {(0, 1): (2, strife), (1, 0): (1, other)}), False)
        self.assertIs(is_breach(counting(0), WIDE, 1, {(0, 1): (1, other)}), True)
        self.assertIs(is_breach(counting(0), WIDE, 0, {(0, 0): (1, other)}), False)

    def test_keys_that_are_strange_with_number_0(self):
        lost = Works(WIDE, CASES, [("strict", ALWAYS, STRICT)])
        wider = Panel(["b"], 2, {"b": (0, 2)}, 0)
        told = breach(lost, wider, 0)
        self.same(list(told), [(0, 0)])
        rank, (arrivals, answers) = told[0, 0]
        self.assertTrue(all(is_environment(WIDE, environment) for environment in answers.values()))
        strange = {**answers, None: ((0,), (2,), 0)}
        self.assertIs(is_breach(lost, wider, 1, {(0, 1): (rank, (arrivals, strange))}), arrivals == (2,))
        self.assertIs(is_breach(lost, wider, 0, {(0, 0): (rank, (arrivals, strange))}), False)


class Refused(Case):
    def test_bad_wide(self):
        panel = Panel(["b"], 2, {"b": (1, 2)}, 1)
        works = Works(panel, CASES, [])
        for wide in (
            *JUNK,
            works,
            constant(1, 2, 0),
            Panel(["c"], 2, {"c": (0, 3)}, 2),
            Panel(["b", "c"], 2, {"b": (0, 3), "c": (0, 3)}, 2),
            Panel(["b"], 3, {"b": (0, 4)}, 2),
            Panel(["b"], 1, {"b": (0, 2)}, 2),
            Panel(["b"], 2, {"b": (2, 2)}, 1),
            Panel(["b"], 2, {"b": (2, 3)}, 1),
            Panel(["b"], 2, {"b": (1, 1)}, 1),
            Panel(["b"], 2, {"b": (0, 1)}, 1),
            Panel(["b"], 2, {"b": (1, 2)}, 0),
            Panel(["b"], 2, {"b": (0, 3)}, 0),
        ):
            self.refused(BadWide, bears, works, wide, None)
            self.refused(BadWide, armour, works, wide)
            self.refused(BadWide, is_armour, works, wide, {})
            self.refused(BadWide, breach, works, wide, None)
            self.refused(BadWide, is_breach, works, wide, None, {})
        for wide in (panel, panel.with_slip(2), panel.with_sight({"b": (0, 2)}), panel.with_sight({"b": (1, 3)})):
            self.same(bears(works, wide, 0), None)
        pair = Panel(["b", "c"], 2, {"b": (1, 2), "c": (1, 2)}, 0)
        for sight in ({"b": (0, 3), "c": (2, 2)}, {"b": (1, 1), "c": (0, 3)}, {"b": (0, 3), "c": (1, 1)}):
            self.refused(BadWide, bears, Works(pair, [], []), pair.with_sight(sight), 0)
        self.same(bears(Works(pair, [], []), pair.with_sight({"b": (0, 2), "c": (1, 3)}), 0), None)

    def test_order_of_errors(self):
        panel = Panel(["b", "c"], 8, None, 0)
        works = Works(panel, [], [])
        many = Panel(["b", "c"], 8, {"b": (0, 9), "c": (0, 2)}, 0)
        self.refused(BadWorks, bears, None, None, None, part=None)
        self.refused(TooMany, bears, works, many, None, most=2000)
        self.refused(TooMany, armour, works, many, most=2000)
        self.refused(TooMany, is_armour, works, many, None, most=2000)
        self.refused(TooMany, breach, works, many, None, most=2000)
        self.refused(TooMany, is_breach, works, many, None, None, most=2000)
        self.refused(BadWide, bears, works, Panel(["b", "d"], 8, {"b": (0, 9), "d": (0, 2)}, 0), None)
        for mode in (-1, 1, True, False, None, "0"):
            self.refused(BadMode, bears, works, panel, mode)
        for rounds in (-1, 41, True, False, None, "0", (1,)):
            self.refused(BadRounds, breach, works, panel, rounds)
            self.refused(BadRounds, is_breach, works, panel, rounds, {})
        for rounds in (0, 40):
            self.assertIsNone(breach(works, panel, rounds))
            self.assertIs(is_breach(works, panel, rounds, {}), False)


if __name__ == "__main__":
    unittest.main()
