"""Point 125: the greatest weight of what can be kept, shown by a plan and by an account."""

import itertools
import random
import unittest

from roundpromises.chances import (
    account,
    best_weight,
    first_loss,
    is_account,
    is_plan,
    machine_for,
    plan,
    weight_with,
    whole_weight,
)
from roundpromises.errors import BadMachine, BadMode, BadRounds, BadWeights, BadWorks, OtherMachines, TooMany
from roundpromises.ever import good_modes, rank
from roundpromises.forms import ALWAYS
from roundpromises.machines import Machine, led, machine_of
from roundpromises.rows import rows
from roundpromises.sights import Panel, arrivals_of, environments
from roundpromises.tables import Table, constant
from roundpromises.works import Works
from tests.calls_works import CASES, EXACT, LOST, SOON, STILL, WORKS
from tests.helpers import JUNK, Case, all_tables, late, seen_until, times_of
from tests.small import ANY, free_works, is_fine_round, letter_left, tables_of, works_by

ALL_ONE = {row: 1 for row in rows(1, 2)}
LETTERS = ("x", "y", "other")
LOOP = dict.fromkeys(LETTERS, 0)
CALM = Machine(1, 2, LETTERS, [(constant(1, 2, None), LOOP)])


def weights_for(works, seed, least=0):
    chance = random.Random(seed)
    return {row: chance.choice([least, 1, 2, 9]) for row in rows(len(works.panel.inputs), works.panel.length)}


def small_works(count):
    for seed in range(count):
        works = works_by(seed, most_rules=2, lengths=(1,))
        if len(works) <= 4:
            yield seed, works
        yield seed, free_works(seed)


class Best:
    """The best weights of a works, by the words of the document: all Tables tried, one round behind the other."""

    def __init__(self, works, weights, tables):
        self.works, self.weights, self.tables = works, weights, tables
        self.every = environments(works.panel)
        self.arrivals = {environment: arrivals_of(works.panel, environment) for environment in self.every}
        self.rounds, self.known = {}, {}
        times = times_of(works.panel.length)
        for mode, environment, time in itertools.product(range(len(works)), self.every, times):
            kept = is_fine_round(works, mode, environment, time)
            self.rounds[mode, environment, time] = letter_left(works, environment, time) if kept else None

    def kept_by(self, table, mode, left, behind):
        """The sum of the weights of the lists of environments that go well, this Table answering first."""
        total = 0
        for environment in self.every:
            letter = self.rounds[mode, environment, table.answer(self.arrivals[environment])]
            if letter is not None:
                total += self.weights[environment[0]] * behind(self.works.ways(mode)[letter], left - 1)
        return total

    def best(self, mode, left):
        if left == 0:
            return 1
        if (mode, left) not in self.known:
            self.known[mode, left] = max(self.kept_by(table, mode, left, self.best) for table in self.tables)
        return self.known[mode, left]


class Bests(Case):
    def test_all_tables_over_one_two_and_three_rounds(self):
        less = 0
        for seed, works in small_works(40):
            weights = weights_for(works, seed)
            best = Best(works, weights, tables_of(works.panel.length))
            for mode in range(len(works)):
                for rounds in range(4):
                    self.same(best_weight(works, weights, mode, rounds), best.best(mode, rounds))
            less += best.best(0, 3) < whole_weight(works, weights, 3)
        self.assertGreater(less, 10)

    def test_all_lists_of_two_rounds(self):
        """All ways to answer the first round, and the second one by what came in the first: lists, not modes."""
        for seed, works in list(small_works(12)):
            if works.panel.slip or len(environments(works.panel)) > 6:
                continue
            weights = weights_for(works, seed)
            tables = tables_of(1)
            best = Best(works, weights, tables)
            found = 0
            for table in tables:
                total = 0
                for environment in best.every:
                    letter = best.rounds[0, environment, table.answer(best.arrivals[environment])]
                    if letter is not None:
                        mode = works.mode_behind((letter,))
                        total += weights[environment[0]] * max(
                            sum(
                                weights[more[0]]
                                for more in best.every
                                if best.rounds[mode, more, second.answer(best.arrivals[more])] is not None
                            )
                            for second in tables
                        )
                found = max(found, total)
            self.same(best_weight(works, weights, 0, 2), found)

    def test_two_inputs(self):
        tables = all_tables(2, 1)
        cases = [("a", (("rings", "out"),))]
        rules = [
            ("x", ALWAYS, ((), ("last", ("a", "b"), 0, 0))),
            ("y", ("then", ALWAYS, ("one", "a")), ((("rings", "a"),), ("never",))),
        ]
        for sight in (None, {"a": (0, 1), "b": (0, 0)}, {"a": (1, 1), "b": (0, 2)}):
            works = Works(Panel(["a", "b"], 1, sight, 0), cases, rules)
            weights = weights_for(works, 7)
            best = Best(works, weights, tables)
            for rounds in range(3):
                self.same(best_weight(works, weights, 0, rounds), best.best(0, rounds))
            self.assertIs(is_plan(works, weights, 2, plan(works, weights, 2)), True)
            self.assertIs(is_account(works, weights, 2, account(works, weights, 2)), True)

    def test_whole_weight(self):
        for seed, works in small_works(20):
            weights = weights_for(works, seed)
            total = sum(weights[row] for row, _, _ in environments(works.panel))
            self.same(
                [whole_weight(works, weights, rounds) for rounds in (0, 1, 2, 40)], [1, total, total**2, total**40]
            )

    def test_numbers_of_any_number_of_digits(self):
        panel = Panel(["a", "b"], 8, {"a": (0, 9), "b": (0, 1)}, 0)
        works = Works(panel, [], [("r", ALWAYS, ((("rings", "a"), ("rings", "b")), ("never",)))])
        weights = dict.fromkeys(rows(2, 8), 9)
        self.same(whole_weight(works, weights, 40), 18000**40)
        self.same(best_weight(works, weights, 0, 40), 18000**40)
        top = account(works, weights, 3)
        self.same(sum(number for key, number in top.items() if key[1] == 3 and key[2][0] == 0), 18000**3)
        harder = works.with_rule(("s", ALWAYS, ((), ("first", ("a",), 0, 0))))
        few = best_weight(harder, weights, 0, 1)
        self.assertTrue(0 < few < 18000)
        self.same(best_weight(harder, weights, 0, 40), few**40)

    def test_by_hand(self):
        """b is heard one late or not: who hears of it at 1 must take it to be 0 or 1."""
        panel = Panel(["b"], 1, {"b": (0, 1)}, 0)
        works = Works(panel, [], [("r", ALWAYS, ((), ("first", ("b",), 0, 0)))])
        weights = {(0,): 5, (1,): 3, (None,): 1}
        # Heard at 0: ring, 5. Not heard at 0: ring for 5 + 1 + 1, or wait for what is more: heard at 1, ring for 3;
        # never heard, ring for 3 + 1 + 1, as nothing is asked if b never rings, with two delays.
        self.same(best_weight(works, weights, 0, 1), 5 + 3 + 5)
        self.same(whole_weight(works, weights, 1), 18)
        self.same(best_weight(works, weights, 0, 2), 169)
        self.same(first_loss(works, weights, 0), 1)
        self.same(first_loss(works, {(0,): 0, (1,): 3, (None,): 1}, 0), None)
        told = account(works, weights, 1)
        self.same(
            told,
            {
                (0, 1, (0, (0,))): 5,
                (0, 1, (0, (None,))): 8,
                (0, 1, (1, (0,))): 0,
                (0, 1, (1, (1,))): 3,
                (0, 1, (1, (None,))): 5,
            },
        )

    def test_rounds_and_weights_in_any_order(self):
        works = Works(Panel(["b"], 1, {"b": (0, 1)}, 0), [], [("r", ALWAYS, ((), ("first", ("b",), 0, 0)))])
        weights = {(0,): 5, (1,): 3, (None,): 1}
        for rounds in (3, 0, 1, 4, 2):
            self.same(best_weight(works, weights, 0, rounds), 13**rounds)
        weights[(1,)] = 0
        # Not heard at 0: ring for 5 + 1 + 1, which is more than 1 + 1 for waiting.
        self.same(best_weight(works, weights, 0, 2), 12**2)
        self.same((whole_weight(works, weights, 2), first_loss(works, weights, 0)), (12**2, None))
        weights[(1,)] = 3
        self.same(best_weight(works, dict(reversed(weights.items())), 0, 2), 13**2)

    def test_no_rounds(self):
        self.same((whole_weight(WORKS, ALL_ONE, 0), best_weight(WORKS, ALL_ONE, 1, 0)), (1, 1))
        self.same((plan(WORKS, ALL_ONE, 0), account(WORKS, ALL_ONE, 0)), ({}, {}))
        for function in (is_plan, is_account):
            self.assertIs(function(WORKS, ALL_ONE, 0, {}), True)
            self.assertIs(function(WORKS, ALL_ONE, 1, {}), False)
            self.assertIs(function(WORKS, ALL_ONE, 0, []), False)
        self.same(weight_with(WORKS, ALL_ONE, CALM, 0), 1)

    def test_weights_of_0(self):
        nothing = dict.fromkeys(ALL_ONE, 0)
        self.same(
            (whole_weight(LOST, nothing, 1), best_weight(LOST, nothing, 0, 1), first_loss(LOST, nothing, 0)),
            (0, 0, None),
        )
        self.assertIs(is_plan(LOST, nothing, 2, plan(LOST, nothing, 2)), True)
        self.assertIs(is_account(LOST, nothing, 2, account(LOST, nothing, 2)), True)


class Plans(Case):
    def test_plans_and_judges(self):
        """Every way to answer two rounds of a works with one mode: what is judged a plan reaches the best."""
        works = Works(Panel(["b"], 1, {"b": (0, 1)}, 0), [], [("r", ALWAYS, ((), ("first", ("b",), 0, 0)))])
        weights = {(0,): 2, (1,): 3, (None,): 1}
        best = Best(works, weights, tables_of(1))
        judged = set()
        for one, two in itertools.product(tables_of(1), repeat=2):
            reach = best.kept_by(one, 0, 1, lambda mode, left: 1)
            second = best.kept_by(two, 0, 2, lambda mode, left: reach)
            wanted = (reach, second) == (best.best(0, 1), best.best(0, 2))
            self.assertIs(is_plan(works, weights, 2, {(0, 2): two, (0, 1): one}), wanted)
            judged.add(wanted)
        self.assertEqual(judged, {True, False})

    def test_plans_of_small_works(self):
        for seed, works in small_works(25):
            weights = weights_for(works, seed)
            rounds = 3
            told = plan(works, weights, rounds)
            keys = [(mode, left) for mode in range(len(works)) for left in range(1, rounds + 1)]
            self.same(list(told), keys)
            self.assertIs(is_plan(works, weights, rounds, told), True)
            best = Best(works, weights, tables_of(works.panel.length))
            reach = {(mode, 0): 1 for mode in range(len(works))}
            for mode, left in sorted(keys, key=lambda key: key[1]):
                found = best.kept_by(told[mode, left], mode, left, lambda to, few: reach[to, few])
                reach[mode, left] = found
                self.same(found, best.best(mode, left))

    def test_a_worse_table_anywhere(self):
        """A plan is judged by what is reached from each pair, also from ones that no round leads to."""
        tried = 0
        for seed, works in small_works(20):
            weights = weights_for(works, seed, least=1)
            told = plan(works, weights, 2)
            best = Best(works, weights, tables_of(works.panel.length))
            for key in told:
                for table in tables_of(works.panel.length)[::4]:
                    wanted = best.kept_by(table, *key, best.best) == best.best(*key)
                    self.assertIs(is_plan(works, weights, 2, {**told, key: table}), wanted)
                    tried += not wanted
        self.assertGreater(tried, 50)

    def test_wrong(self):
        told = plan(WORKS, ALL_ONE, 2)
        table = told[0, 1]
        self.assertIs(is_plan(WORKS, ALL_ONE, 2, told), True)
        for thing in (
            *JUNK,
            {key: worth for key, worth in told.items() if key != (1, 2)},
            {**told, (0, 3): table},
            {**told, (0, 0): table},
            {**told, (2, 1): table},
            {(key if key != (0, 1) else (0, 0)): worth for key, worth in told.items()},
            {(key if key != (0, 1) else (0, 3)): worth for key, worth in told.items()},
            {(key if key != (0, 1) else (2, 1)): worth for key, worth in told.items()},
            {(key if key != (0, 1) else (-1, 1)): worth for key, worth in told.items()},
            {(key if key != (0, 1) else (0, True)): worth for key, worth in told.items()},
            {(key if key != (0, 1) else (False, 1)): worth for key, worth in told.items()},
            {(key if key != (0, 1) else (0, 1, 0)): worth for key, worth in told.items()},
            {(key if key != (0, 1) else 0): worth for key, worth in told.items()},
            {**told, (0, 1): None},
            {**told, (0, 1): [table]},
            {**told, (0, 1): constant(1, 3, None)},
            {**told, (0, 1): constant(2, 2, None)},
            list(told.items()),
        ):
            self.assertIs(is_plan(WORKS, ALL_ONE, 2, thing), False)


class Accounts(Case):
    def is_one(self, works, weights, rounds, thing):
        """The clauses of point 125, word by word, for numbers of just the right keys."""
        length = works.panel.length
        every = rows(1, length)
        looks = [(moment, row) for moment in range(length + 1) for row in every if seen_until(row, moment) == row]

        def top(mode, left):
            if left == 0:
                return 1
            return sum(thing[mode, left, (0, row)] for moment, row in looks if moment == 0)

        def worth(mode, left, time, fits):
            total = 0
            for environment in environments(works.panel):
                if fits(arrivals_of(works.panel, environment)) and is_fine_round(works, mode, environment, time):
                    to = works.ways(mode)[letter_left(works, environment, time)]
                    total += weights[environment[0]] * top(to, left - 1)
            return total

        for mode, left, (moment, row) in thing:
            number = thing[mode, left, (moment, row)]
            if number < worth(mode, left, moment, lambda heard: seen_until(heard, moment) == row):
                return False
            if moment == length:
                least = worth(mode, left, None, lambda heard: heard == row)
            else:
                least = sum(
                    thing[mode, left, (then, more)]
                    for then, more in looks
                    if then == moment + 1 and seen_until(more, moment) == row
                )
            if number < least:
                return False
        return True

    def test_accounts(self):
        for seed, works in small_works(10):
            weights = weights_for(works, seed)
            told = account(works, weights, 2)
            self.assertTrue(self.is_one(works, weights, 2, told))
            self.assertIs(is_account(works, weights, 2, told), True)
            order = [(mode, left, moment, tuple(map(late, row))) for mode, left, (moment, row) in told]
            self.assertEqual(order, sorted(order))
            many = len([1 for moment in range(works.panel.length + 1) for _ in range(moment + 2)])
            self.assertEqual(len(told), len(works) * 2 * many)
            for mode, left in itertools.product(range(len(works)), (1, 2)):
                top = sum(number for key, number in told.items() if key[:2] == (mode, left) and key[2][0] == 0)
                self.same(top, best_weight(works, weights, mode, left))
            self.judge_others(works, weights, told, seed)

    def judge_others(self, works, weights, told, seed):
        """No number can be less; greater ones may want greater ones."""
        chance = random.Random(seed)
        for key in chance.sample(list(told), min(8, len(told))):
            if told[key] > 0:
                self.assertIs(is_account(works, weights, 2, {**told, key: told[key] - 1}), False)
            more = {**told, key: told[key] + 1}
            self.assertIs(is_account(works, weights, 2, more), self.is_one(works, weights, 2, more))
        big = {key: number * 10**9 for key, number in told.items()}
        self.assertIs(is_account(works, weights, 2, big), self.is_one(works, weights, 2, big))

    def test_wrong(self):
        told = account(WORKS, ALL_ONE, 2)
        key = (0, 1, (0, (0,)))

        def instead(other):
            return {(other if one == key else one): number for one, number in told.items()}

        self.assertIs(is_account(WORKS, ALL_ONE, 2, told), True)
        self.assertIs(is_account(WORKS, ALL_ONE, 1, told), False)
        for thing in (
            *JUNK,
            {one: number for one, number in told.items() if one != key},
            {**told, (0, 3, (0, (0,))): 0},
            {**told, (0, 0, (0, (0,))): 0},
            {**told, (0, 1, (0, (1,))): 0},
            {**told, (0, 1, (3, (1,))): 0},
            {**told, (0, 1, (None, (1,))): 0},
            {**told, (2, 1, (0, (0,))): 0},
            instead((0, 1, (0, (1,)))),
            instead((0, 1, (3, (1,)))),
            instead((0, 1, (None, (1,)))),
            instead((0, 1, (-1, (None,)))),
            instead((0, 1, (0, (3,)))),
            instead((0, 1, (0, (0, 0)))),
            instead((0, 0, (0, (0,)))),
            instead((0, 3, (0, (0,)))),
            instead((2, 1, (0, (0,)))),
            instead((-1, 1, (0, (0,)))),
            instead((False, 1, (0, (0,)))),
            instead((0, True, (0, (0,)))),
            instead((0, 1, (False, (0,)))),
            instead((0, 1, (0, (False,)))),
            instead((0, 1, (0, 0))),
            instead((0, 1, 0)),
            instead((0, 1)),
            instead(0),
            {**told, key: -1},
            {**told, key: None},
            {**told, key: True},
            {**told, key: str(told[key])},
            list(told.items()),
        ):
            self.assertIs(is_account(WORKS, ALL_ONE, 2, thing), False)
        zero = {one: 0 for one in told}
        self.assertIs(is_account(WORKS, dict.fromkeys(ALL_ONE, 0), 2, zero), True)
        self.assertIs(is_account(WORKS, dict.fromkeys(ALL_ONE, 0), 2, {**zero, key: False}), False)


class Machines(Case):
    def test_weight_with(self):
        for seed, works in small_works(15):
            weights = weights_for(works, seed)
            chance = random.Random(seed)
            many = chance.randint(1, 3)
            tables = chance.sample(tables_of(works.panel.length), many)
            states = [(table, {letter: chance.randrange(many) for letter in works.letters}) for table in tables]
            machine = Machine(1, works.panel.length, works.letters, states)
            for rounds in (0, 1, 2):
                wanted = 0
                for given in itertools.product(environments(works.panel), repeat=rounds):
                    if self.is_kept(works, machine, given):
                        weight = 1
                        for row, _, _ in given:
                            weight *= weights[row]
                        wanted += weight
                self.same(weight_with(works, weights, machine, rounds), wanted)
            for rounds in (1, 5):
                found = weight_with(works, weights, machine, rounds)
                self.assertTrue(found <= best_weight(works, weights, 0, rounds))

    def is_kept(self, works, machine, given):
        mode = 0
        for environment, moment, letter in led(works, machine, list(given)):
            if not is_fine_round(works, mode, environment, moment):
                return False
            mode = works.ways(mode)[letter]
        return True

    def test_machine_for(self):
        for seed, works in small_works(25):
            weights = weights_for(works, seed)
            for rounds in (1, 2, 24 // len(works)):
                machine = machine_for(works, weights, rounds)
                best = best_weight(works, weights, 0, rounds)
                self.same(weight_with(works, weights, machine, rounds), best)
                self.assertLessEqual(len(machine), 24)
            self.refused(TooMany, machine_for, works, weights, 24 // len(works) + 1, most=24)

    def test_machine_for_24(self):
        one = Works(EXACT, CASES, [SOON])
        self.same(weight_with(one, ALL_ONE, machine_for(one, ALL_ONE, 24), 24), best_weight(one, ALL_ONE, 0, 24))
        self.refused(TooMany, machine_for, one, ALL_ONE, 25, most=24)
        for rounds in (0, None, True, -1, 41, "1"):
            self.refused(BadRounds, machine_for, one, ALL_ONE, rounds)
        self.refused(BadRounds, machine_for, one, ALL_ONE, 41)

    def test_a_machine_that_keeps_all(self):
        self.same(weight_with(WORKS, ALL_ONE, machine_of(WORKS), 40), whole_weight(WORKS, ALL_ONE, 40))


class Losses(Case):
    def test_first_loss(self):
        found = set()
        for seed, works in small_works(40):
            for weights in (weights_for(works, seed), weights_for(works, seed, least=1)):
                for mode in range(len(works)):
                    wanted = None
                    for rounds in range(len(works) + 3, 0, -1):
                        if best_weight(works, weights, mode, rounds) < whole_weight(works, weights, rounds):
                            wanted = rounds
                    self.same(first_loss(works, weights, mode), wanted)
                    self.assertTrue(wanted is None or wanted <= len(works))
                    if 0 not in weights.values():
                        self.same(wanted, rank(works, mode))
                        self.assertEqual(wanted is None, mode in good_modes(works))
                    found.add(wanted)
        self.assertTrue({None, 1, 2, 3} <= found, found)

    def test_fewer_rules_and_lesser_delays(self):
        for seed in range(25):
            works = works_by(seed, lengths=(1,))
            weights = weights_for(works, seed)
            best = [best_weight(works, weights, 0, rounds) for rounds in range(4)]
            for name in works.names:
                fewer = works.without(name)
                for rounds in range(4):
                    self.assertGreaterEqual(best_weight(fewer, weights, 0, rounds), best[rounds])
            known = [
                best_weight(works.with_panel(works.panel.with_sight({"b": (delay, delay)})), weights, 0, 3)
                for delay in range(3)
            ]
            self.assertEqual(known, sorted(known, reverse=True))

    def test_rounds_behind_one_another(self):
        for seed, works in small_works(15):
            weights = weights_for(works, seed)
            for first, more in ((1, 1), (2, 3), (4, 2)):
                most = max(best_weight(works, weights, mode, more) for mode in range(len(works)))
                for mode in range(len(works)):
                    self.assertLessEqual(
                        best_weight(works, weights, mode, first + more), best_weight(works, weights, mode, first) * most
                    )


class Wrong(Case):
    def test_weights(self):
        for weights in (
            *JUNK,
            {row: 1 for row in rows(1, 1)},
            {row: 1 for row in rows(1, 3)},
            {row: 1 for row in rows(2, 2)},
            {**ALL_ONE, (3,): 1},
            {**ALL_ONE, (0,): 10},
            {**ALL_ONE, (0,): -1},
            {**ALL_ONE, (0,): True},
            {**ALL_ONE, (0,): None},
            {((True,) if row == (1,) else row): 1 for row in ALL_ONE},
            {((False,) if row == (0,) else row): 1 for row in ALL_ONE},
            list(ALL_ONE.items()),
        ):
            for function, *more in (
                (whole_weight, 99),
                (best_weight, 9, 99),
                (plan, 99),
                (is_plan, 99, None),
                (account, 99),
                (is_account, 99, None),
                (weight_with, None, 99),
                (machine_for, 99),
                (first_loss, 9),
            ):
                self.refused(BadWeights, function, WORKS, weights, *more)
                self.refused(BadWorks, function, EXACT, weights, *more, part=None)

    def test_numbers(self):
        for rounds in (None, True, False, -1, 41, "1", 10**11):
            for function, *more in ((whole_weight,), (plan,), (account,), (best_weight, 0), (weight_with, CALM)):
                self.refused(BadRounds, function, WORKS, ALL_ONE, *more, rounds)
            for function in (is_plan, is_account):
                self.refused(BadRounds, function, WORKS, ALL_ONE, rounds, {})
        for mode in (None, True, -1, 2, "0"):
            self.refused(BadMode, best_weight, WORKS, ALL_ONE, mode, 99)
            self.refused(BadMode, first_loss, WORKS, ALL_ONE, mode)

    def test_machines(self):
        other = Machine(1, 3, LETTERS, [(constant(1, 3, None), LOOP)])
        turned = Machine(1, 2, ("y", "x", "other"), [(constant(1, 2, None), LOOP)])
        self.refused(BadMachine, weight_with, WORKS, ALL_ONE, WORKS, 99, part=None)
        for machine in (other, turned):
            self.refused(OtherMachines, weight_with, WORKS, ALL_ONE, machine, 99)
        self.refused(BadWeights, weight_with, WORKS, {}, other, 99)

    def test_forty_rounds(self):
        count = ("then", ANY, ANY)
        works = Works(EXACT, CASES, [SOON, STILL, ("z", ("many", count), ((("silent", "b"),), ("never",)))])
        weights = {(0,): 1, (1,): 9, (2,): 4, (None,): 2}
        told = plan(works, weights, 40)
        self.assertEqual(len(told), 40 * len(works))
        self.assertIs(is_plan(works, weights, 40, told), True)
        numbers = account(works, weights, 40)
        self.assertIs(is_account(works, weights, 40, numbers), True)
        top = sum(number for key, number in numbers.items() if key[:2] == (0, 40) and key[2][0] == 0)
        self.same(top, best_weight(works, weights, 0, 40))
        self.assertTrue(all(isinstance(table, Table) for table in told.values()))


if __name__ == "__main__":
    unittest.main()
