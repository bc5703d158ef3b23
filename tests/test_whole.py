"""The whole program: the same thing told in many ways, and works with other names."""

import functools
import itertools
import unittest

from roundpromises.again import can_return, fine_modes, pit, staircase
from roundpromises.bench import surely_breaks, surely_keeps, tries_needed
from roundpromises.books import can_keep, first_broken, greatest_lots, history, least_drops, least_quarrels
from roundpromises.carries import carries, escape, follower, is_play
from roundpromises.chances import best_weight, first_loss, weight_with, whole_weight
from roundpromises.corners import greatest_delays, greatest_slip, least_delays, least_seen, with_delays
from roundpromises.desk import Desk
from roundpromises.errors import PromiseError
from roundpromises.ever import doom, good_modes, is_strategy, kept_task, late_strategy, lasts, rank, strategy
from roundpromises.field import least_faults
from roundpromises.journals import journal_of, replayed
from roundpromises.learning import can_learn, first_guess, greatest_guesses, is_safe, lore, riddle
from roundpromises.ledgers import can_do_with, coarsest_splits, finest_gaps, is_safe_view, wit
from roundpromises.machines import is_fine_with, keeps_for_ever, led, machine_of, stock_with
from roundpromises.one import earliest, good, keeps, quarrel
from roundpromises.plant import Plant
from roundpromises.rows import rows
from roundpromises.serving import serves
from roundpromises.shocks import armour, bears, breach
from roundpromises.sights import Panel, arrivals_of, environments
from roundpromises.stock import larder, leak, least_stock, ruin, stock_for
from roundpromises.tables import Table, rung
from roundpromises.texts import read_works, works_text
from roundpromises.works import Works, same_plays, task_of
from tests.calls_works import LOST, WORKS
from tests.helpers import Case
from tests.small import works_by

PAIR = Panel(["b", "c"], 1, {"b": (0, 1), "c": (0, 0)}, 0)
CASES = [("a", (("gap", "b", "out", 1),)), ("x", (("silent", "c"), ("rings", "out")))]
ALWAYS = ("many", ("any",))
BEHIND_A = ("then", ALWAYS, ("one", "a"))
PROMISES = (
    ((), ("first", ("b", "c"), 0, 1)),
    ((("rings", "c"),), ("latest", ("b", "c"), 0, 1)),
    ((("silent", "b"), ("silent", "c")), ("never",)),
    ((("gap", "b", "c", 0),), ("last", ("c",), 0, 0)),
    ((), ("first", ("c",), 0, 0)),
)


@functools.lru_cache(None)
def some():
    found = [WORKS, LOST] + [works_by(seed) for seed in range(60)]
    for one, other in itertools.product(PROMISES, repeat=2):
        found.append(Works(PAIR, CASES, [("r", ALWAYS, one), ("s", BEHIND_A, other)]))
    return [works for works in found if len(works) <= 6]


class ManyWays(Case):
    def test_whether_all_can_be_kept(self):
        told = []
        for works in some():
            wanted = lasts(works)
            told.append(wanted)
            for at, found in enumerate(self.ways(works)):
                self.assertIs(found, wanted, (at, works_text(works)))
        self.assertGreater(min(told.count(True), told.count(False)), 15)

    def ways(self, works):
        """Whether mode 0 is good, told by all parts of the program."""
        panel, letters = works.panel, works.letters
        yield 0 in good_modes(works)
        yield rank(works, 0) is None
        yield strategy(works) is not None
        yield late_strategy(works) is not None
        yield doom(works) is None
        yield earliest(kept_task(works, 0)) is not None
        yield quarrel(kept_task(works, 0)) is None
        even, odd = {letter: 2 for letter in letters}, {letter: 3 for letter in letters}
        yield 0 in fine_modes(works, even)
        yield staircase(works, even) is not None
        yield pit(works, even) is None
        yield can_return(works, list(letters))
        self.same(fine_modes(works, odd), ())
        nothing = {letter: 0 for letter in letters}
        yield least_stock(works, nothing, 0) == 0
        yield stock_for(works, nothing, 0, 40) == 0
        yield larder(works, nothing) is not None
        yield ruin(works, nothing, 0) is None
        yield leak(works, nothing) is None
        machine = machine_of(works)
        yield machine is not None
        yield machine is not None and keeps_for_ever(works, machine)
        yield machine is not None and is_fine_with(works, even, machine)
        yield machine is not None and stock_with(works, nothing, machine) == 0
        weights = {row: 1 for row in rows(len(panel.inputs), panel.length)}
        yield first_loss(works, weights, 0) is None
        yield best_weight(works, weights, 0, len(works)) == whole_weight(works, weights, len(works))
        yield machine is not None and weight_with(works, weights, machine, 3) == whole_weight(works, weights, 3)
        ledger = dict(zip(letters, "pqrs"))
        yield can_do_with(works, ledger)
        yield is_safe_view(works, ledger, (0,))
        yield wit(works, ledger) is not None
        yield tuple((letter,) for letter in letters) not in finest_gaps(works) and coarsest_splits(works) != []
        yield bears(works, panel, 0) is None
        yield armour(works, panel) is not None
        yield breach(works, panel, 40) is None
        yield can_keep(works, works.names)
        yield greatest_lots(works) == [works.names]
        yield least_quarrels(works) == []
        yield least_drops(works) == [()]
        yield first_broken(panel, works.cases, [("put", rule) for rule in works.rules]) is None
        yield follower(works, []) is not None
        plant = Plant(works)
        yield plant.copy().lost_in() is None if 0 in good_modes(works) else self.lost_in_the_end(plant)
        yield Desk(works_text(works)).say("lasts") == "yes"
        yield Desk(works_text(works)).say("rank") == "-"
        yield "0" in Desk(works_text(works)).say("good").split(" ")

    def lost_in_the_end(self, plant):
        """Some first hearing leaves a plant in a mode that is not good not sure."""
        found = []
        inputs = plant.works().panel.inputs
        for many in range(len(inputs) + 1):
            for names in itertools.combinations(inputs, many):
                one = plant.copy()
                try:
                    for name in names:
                        one.hear(name)
                except PromiseError:
                    continue
                found.append(one.is_sure())
        return all(found)

    def test_every_mode(self):
        for works in some():
            for mode in range(len(works)):
                wanted = mode in good_modes(works)
                weights = {row: 2 for row in rows(len(works.panel.inputs), works.panel.length)}
                nothing = {letter: 0 for letter in works.letters}
                self.assertIs(rank(works, mode) is None, wanted)
                self.assertIs(bears(works, works.panel, mode) is None, wanted)
                self.same(least_stock(works, nothing, mode), 0 if wanted else None)
                self.same(first_loss(works, weights, mode), rank(works, mode))
                self.assertIs(earliest(kept_task(works, mode)) is not None, wanted)
                self.assertIs(is_safe_view(works, dict(zip(works.letters, "pqrs")), (mode,)), wanted)
                if wanted:
                    self.assertIs(is_safe(works, mode, first_guess(works)), True)

    def test_delays_told_in_many_ways(self):
        for works in some():
            greatest, least = greatest_delays(works), least_delays(works)
            last = works.panel.length + 1
            for delays in itertools.product(range(last + 1), repeat=len(works.panel.inputs)):
                wanted = lasts(with_delays(works, delays))
                below = any(all(one <= most for one, most in zip(delays, top)) for top in greatest)
                above = any(all(one >= few for one, few in zip(delays, bottom)) for bottom in least)
                self.assertIs(below, wanted)
                self.assertIs(above, not wanted)
                known = with_delays(works, delays)
                self.assertIs(can_learn(known), wanted)
                self.assertIs(is_safe(works, 0, (delays,)) if delays in first_guess(works) else wanted, wanted)
            self.assertIs(least_seen(works) != [], (0,) * len(works.panel.inputs) not in least)
            slip = greatest_slip(works)
            for other in range(3):
                self.assertIs(lasts(works.with_panel(works.panel.with_slip(other))), slip is not None and other <= slip)

    def test_what_serves_lets_no_less_be_kept(self):
        for works in some()[::3]:
            for other in some()[::3]:
                if works.panel.inputs == other.panel.inputs and works.panel.length == other.panel.length:
                    if serves(works.panel, other.panel) and lasts(other):
                        self.assertIs(lasts(other.with_panel(works.panel)), True)

    def test_plays_machines_and_plants(self):
        """The course of the machine of a works is a play, through which a plant is led, and every promise is kept."""
        for works in some():
            machine = machine_of(works)
            if machine is None:
                continue
            every = environments(works.panel)
            course = led(works, machine, [every[at * 7 % len(every)] for at in range(5)])
            self.assertIs(is_play(works, course), True)
            plant = Plant(works)
            for environment, moment, letter in course:
                self.assertTrue(plant.is_sure())
                self.lead(plant, environment, moment)
                self.same(plant.past()[-1], letter)
            self.same(plant.broken(), ())
            self.assertTrue(replayed(works, journal_of(plant)) == plant)
            self.same(led(works, follower(works, course), [one for one, _, _ in course]), course)
            self.same(least_faults_of(works, machine, course)[:1], [((0,) * len(works.panel.inputs), 0, False)])

    def lead(self, plant, environment, moment):
        panel = plant.works().panel
        for clock in range(panel.length + 1):
            for name, time in zip(panel.inputs, arrivals_of(panel, environment)):
                if time == clock:
                    plant.hear(name)
            if clock == moment:
                plant.ring()
            if clock < panel.length:
                plant.tick()
        plant.close(environment[0], None if moment is None else moment + environment[2])

    def test_tries_of_a_strategy(self):
        for works in some():
            for mode, table in (strategy(works) or {}).items():
                task = kept_task(works, mode)
                tries = list(table.answers().items())[:40]
                self.assertIs(keeps(task, table), True)
                self.assertIs(surely_breaks(task, tries), False)
                if len(table.answers()) <= 40:
                    self.assertIs(surely_keeps(task, tries), True)
                self.assertLessEqual(tries_needed(table), len(table.answers()))

    def test_a_works_by_its_history_and_by_its_text(self):
        for works in some():
            *_, last = history(works.panel, works.cases, [("put", rule) for rule in works.rules])
            self.assertTrue(last == works)
            self.assertTrue(read_works(works_text(works)) == works)
            self.assertIs(carries(works, last), True)
            self.assertIs(same_plays(works, last), True)
            for name in works.names:
                self.assertIsNone(escape(works, works.without(name)))


def least_faults_of(works, machine, course):
    """The faults that explain what the first Table of a machine answered in the first round of a course."""
    environment, moment, _ = course[0]
    table = machine.table_behind(())
    time = rung(works.panel, table, environment)
    assert table.answer(arrivals_of(works.panel, environment)) == moment
    return least_faults(works.panel, table, [(environment[0], time)])


# Other names: of the inputs with another order, of the letters, of the rules with another order.
INPUTS = {"b": "then", "c": "and", "out": "out", "start": "start"}
LETTERS = {"a": "q", "x": "one", "y": "b", "c": "any", "d": "if", "other": "other"}
RULES = {"r": "zz", "s": "never", "x": "if", "y": "asks", "z": "a", "soon": "rule", "still": "ring"}


def renamed(works):
    sight = {INPUTS[name]: pair for name, pair in zip(works.panel.inputs, works.panel.delays)}
    panel = Panel(list(sight), works.panel.length, sight, works.panel.slip)
    cases = [(LETTERS[letter], condition_with(condition)) for letter, condition in works.cases]
    rules = [(RULES[name], form_with(form), promise_with(promise)) for name, form, promise in works.rules]
    return Works(panel, cases, rules)


def condition_with(condition):
    return tuple(tuple(INPUTS.get(part, part) if at else part for at, part in enumerate(term)) for term in condition)


def form_with(form):
    if form[0] == "one":
        return ("one", LETTERS[form[1]])
    return (form[0], *[form_with(part) for part in form[1:]])


def promise_with(promise):
    condition, window = promise
    if len(window) > 1:
        window = (window[0], tuple(sorted(INPUTS[name] for name in window[1])), *window[2:])
    return condition_with(condition), window


class OtherNames(Case):
    def pairs(self):
        for works in some():
            if all(name in RULES for name in works.names) and all(letter in LETTERS for letter in works.letters):
                yield works, renamed(works)

    def placed(self, works, row):
        """A row, or delays, in the order of the other names."""
        names = [INPUTS[name] for name in works.panel.inputs]
        return tuple(row[names.index(name)] for name in sorted(names))

    def table(self, works, table):
        answers = {self.placed(works, row): time for row, time in table.answers().items()}
        return Table(table.size, table.length, answers)

    def test_modes(self):
        for works, other in self.pairs():
            self.same(len(other), len(works))
            self.same(good_modes(other), good_modes(works))
            self.same(other.letters, tuple(LETTERS[letter] for letter in works.letters))
            for mode in range(len(works)):
                self.same(rank(other, mode), rank(works, mode))
                self.same(other.active(mode), tuple(RULES[name] for name in works.active(mode)))
                self.same(other.word_to(mode), tuple(LETTERS[letter] for letter in works.word_to(mode)))
                ways = {LETTERS[letter]: to for letter, to in works.ways(mode).items()}
                self.same(other.ways(mode), dict(sorted(ways.items())))

    def test_tables(self):
        for works, other in self.pairs():
            for told in (strategy, late_strategy):
                one, two = told(works), told(other)
                self.assertIs(one is None, two is None)
                for mode, table in (one or {}).items():
                    self.assertTrue(two[mode] == self.table(works, table))
            for mode in range(len(works)):
                task, second = task_of(works, mode, []), task_of(other, mode, [])
                for row in rows(len(works.panel.inputs), works.panel.length):
                    self.same(good(second, self.placed(works, row)), good(task, row))
            if strategy(works):
                moved = {mode: self.table(works, table) for mode, table in strategy(works).items()}
                self.assertIs(is_strategy(other, moved), True)
            machine, second = machine_of(works), machine_of(other)
            self.same(None if machine is None else len(machine), None if second is None else len(second))

    def test_lists(self):
        for works, other in self.pairs():
            for told in (greatest_delays, least_delays):
                self.same(told(other), sorted(self.placed(works, delays) for delays in told(works)))
            seen = [tuple(sorted(INPUTS[name] for name in names)) for names in least_seen(works)]
            self.same(least_seen(other), sorted(seen))
            self.same(greatest_slip(other), greatest_slip(works))
            for told in (greatest_lots, least_quarrels, least_drops):
                self.same(told(other), sorted(tuple(RULES[name] for name in lot) for lot in told(works)))
            for told in (coarsest_splits, finest_gaps):
                splits = [tuple(tuple(LETTERS[one] for one in part) for part in split) for split in told(works)]
                self.same(told(other), sorted(splits))

    def test_numbers(self):
        for works, other in self.pairs():
            every = rows(len(works.panel.inputs), works.panel.length)
            weights = {row: at * 7 % 10 for at, row in enumerate(every)}
            moved = {self.placed(works, row): weight for row, weight in weights.items()}
            marks = {letter: at % 4 for at, letter in enumerate(works.letters)}
            gains = {letter: (at * 5) % 7 - 3 for at, letter in enumerate(works.letters)}
            self.same(
                fine_modes(other, {LETTERS[letter]: mark for letter, mark in marks.items()}), fine_modes(works, marks)
            )
            for mode in range(len(works)):
                self.same(best_weight(other, moved, mode, 3), best_weight(works, weights, mode, 3))
                self.same(first_loss(other, moved, mode), first_loss(works, weights, mode))
                second = {LETTERS[letter]: gain for letter, gain in gains.items()}
                self.same(least_stock(other, second, mode), least_stock(works, gains, mode))
                wide, wider = [one.panel.with_slip(2) for one in (works, other)]
                self.same(bears(other, wider, mode), bears(works, wide, mode))
            self.assertIs(can_learn(other), can_learn(works))
            self.assertIs(lore(other) is None, lore(works) is None)
            self.assertIs(riddle(other) is None, riddle(works) is None)
            if len(first_guess(works)) <= 6:
                guesses = [tuple(sorted(self.placed(works, one) for one in guess)) for guess in greatest_guesses(works)]
                self.same(greatest_guesses(other), sorted(guesses))

    def test_plants(self):
        for works, other in self.pairs():
            plant, second = Plant(works), Plant(other)
            names = list(works.panel.inputs)
            for at in range(12):
                deeds = [("tick",), ("ring",), ("hear", names[at % len(names)])]
                for word, *parts in deeds[at % 3 :] + deeds[: at % 3]:
                    outcomes = []
                    for one, told in ((plant, parts), (second, [INPUTS[part] for part in parts])):
                        try:
                            outcomes.append(getattr(one, word)(*told))
                        except PromiseError as error:
                            outcomes.append((type(error).__name__, vars(error)))
                    self.assertEqual(*outcomes)
                    self.same(second.advice(), plant.advice())
                    self.same(second.lost_in(), plant.lost_in())
                    self.same(second.heard(), self.placed(works, plant.heard()))
                if at % 4 == 3:
                    self.close(plant, second)

    def close(self, plant, second):
        """The first of all closings that is let."""
        works = plant.works()
        for row in rows(len(works.panel.inputs), works.panel.length):
            for time in (None, *range(works.panel.length + 3)):
                try:
                    plant.close(row, time)
                except PromiseError:
                    continue
                second.close(self.placed(works, row), time)
                self.same(second.past(), tuple(LETTERS[letter] for letter in plant.past()))
                return self.same((second.broken(), second.mode()), (plant.broken(), plant.mode()))


if __name__ == "__main__":
    unittest.main()
