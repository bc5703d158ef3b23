"""Point 182: what can still be kept from a point of a round, and what threatens it."""

import functools
import itertools
import random
import unittest

from roundpromises.errors import NotNow
from roundpromises.ever import doom, good_modes, kept_task, rank
from roundpromises.forms import ALWAYS
from roundpromises.one import is_right
from roundpromises.plant import Plant
from roundpromises.rows import rows
from roundpromises.sights import Panel, arrivals_of, environments, is_environment
from roundpromises.works import Works
from tests.calls_works import LOST, VAGUE
from tests.helpers import JUNK, Case, late, seen_until, times_of
from tests.small import Rounds, free_works, works_by
from tests.test_plant import do, led


@functools.lru_cache(None)
def some():
    found = [works_by(seed) for seed in range(40)] + [free_works(seed) for seed in range(8)]
    return [Rounds(works) for works in found + [LOST]]


def in_mode(works, mode):
    """A plant at the beginning of a round in a mode: of a works that is otherwise led from there; None if it cannot.

    Rounds that leave the letters of the mode's word are put together, whatever they break.
    """
    plant = Plant(works)
    for letter in works.word_to(mode):
        if not leave(plant, letter):
            return None
    return plant


def leave(plant, letter):
    """Lead a round, whatever it breaks, that leaves a letter; whether there is one."""
    works = plant.works()
    for environment in environments(works.panel):
        for time in times_of(works.panel.length):
            other = plant.copy()
            close(other, environment, time)
            if other.past()[-1] == letter:
                close(plant, environment, time)
                return True
    return False


def close(plant, environment, time):
    for _ in steps(plant, environment, time):
        pass
    plant.close(environment[0], None if time is None else time + environment[2])


def steps(plant, environment, time):
    """Lead a round up to its end; stop behind the hearing of each moment, ahead of ringing."""
    panel = plant.works().panel
    arrivals = arrivals_of(panel, environment)
    for moment in range(panel.length + 1):
        for name, heard in zip(panel.inputs, arrivals):
            if heard == moment:
                plant.hear(name)
        yield moment
        if time == moment:
            plant.ring()
            yield moment
        if moment < panel.length:
            plant.tick()


def points(plant):
    """All points of the plant's round."""
    found, left = [], [plant]
    panel = plant.works().panel
    while left:
        one = left.pop()
        found.append(one)
        for deed in [("tick",), ("ring",)] + [("hear", name) for name in panel.inputs]:
            other = one.copy()
            try:
                do(other, deed)
            except NotNow:
                continue
            if deed == ("tick",) or other.moment() == one.moment():
                left.append(other)
    return found


class FromHere:
    """What can be done from a point, over all Tables, by the words of the document."""

    def __init__(self, rounds, plant):
        self.rounds = rounds
        self.plant = plant
        self.mode = plant.mode()
        self.every = [one for one in rounds.every if self.goes_on(rounds.arrivals[one])]
        self.rows = [row for row in rows(len(plant.heard()), rounds.works.panel.length) if self.goes_on(row)]

    def goes_on(self, row):
        return seen_until(row, self.plant.moment()) == self.plant.heard()

    def answers(self, first):
        """All Tables' answers to the rows that go on, none ahead of a time."""
        told = [{row: table.answers()[row] for row in self.rows} for table in self.rounds.tables]
        return [answers for answers in told if all(late(time) >= late(first) for time in answers.values())]

    def options(self):
        """All ways to answer from here, as dicts from the rows that go on."""
        if self.plant.rung() is not None:
            return [{row: self.plant.rung() for row in self.rows}]
        return self.answers(self.plant.moment())

    def ends(self, answers):
        """All that a way to answer may lead to: modes, None for a promise that is broken."""
        found = set()
        for environment in self.every:
            time = answers[self.rounds.arrivals[environment]]
            fits = self.rounds.fits[self.mode, environment, time]
            ways = self.rounds.works.ways(self.mode)
            found.add(ways[self.rounds.letters[environment, time]] if fits else None)
        return found

    def is_kept(self, answers, good):
        return all(to in good for to in self.ends(answers))


def lost_within(rounds, most):
    """For each number of rounds the modes from which the inputs can break a promise in so many."""
    found = [set()]
    ends = {}
    for mode in range(len(rounds.works)):
        ends[mode] = []
        for table in rounds.tables:
            letters = rounds.left_by(mode, table)
            ends[mode].append({None} if letters is None else {to for _, to in rounds.goes(mode, letters)})
    for _ in range(most):
        lost = found[-1]
        found.append({mode for mode in ends if all(None in tos or tos & lost for tos in ends[mode])})
    return found


class AllWays(Case):
    def test_sure_and_advice_and_lost(self):
        """Every point of a round in every mode, against all ways to answer from there."""
        sures, advices, losts = [], [], []
        for rounds in some():
            good = rounds.good()
            within = lost_within(rounds, len(rounds.works) + 1)
            for mode in range(len(rounds.works)):
                plant = in_mode(rounds.works, mode)
                for point in points(plant) if plant else []:
                    here = FromHere(rounds, point)
                    options = here.options()
                    sure = any(here.is_kept(answers, good) for answers in options)
                    self.assertIs(point.is_sure(), sure)
                    sures.append(sure)
                    self.same(point.advice(), self.advised(here, options, good))
                    advices.append(point.advice())
                    self.same(point.lost_in(), None if sure else self.lost(here, options, within))
                    self.same(point.lost_in(), None if sure else self.lost_by_ranks(here, options))
                    losts.append(point.lost_in())
        self.assertGreater(min(sures.count(True), sures.count(False)), 400)
        for told in (None, *itertools.product((True, False), repeat=2)):
            self.assertGreater(advices.count(told), 20)
        self.assertTrue({None, 1, 2, 3} <= set(losts))

    def advised(self, here, options, good):
        moment = here.plant.moment()
        if here.plant.rung() is not None:
            return None
        now = {row: moment for row in here.rows}
        waiting = [answers for answers in options if moment not in answers.values()]
        return here.is_kept(now, good), any(here.is_kept(answers, good) for answers in waiting)

    def lost(self, here, options, within):
        """The least number of rounds in which a promise can be broken from here, whatever is answered."""
        for rounds, lost in enumerate(within):
            ends = [here.ends(answers) for answers in options]
            if all(None in tos or tos & lost for tos in ends):
                return rounds + 1
        raise AssertionError

    def lost_by_ranks(self, here, options):
        """The least n such that nothing can be kept with the letters barred that lead to ranks less than n."""
        works = here.plant.works()
        for level in range(1, len(works) + 2):
            ranks = [rank(works, mode) for mode in range(len(works))]
            kept = {mode for mode, found in enumerate(ranks) if found is None or found >= level}
            if not any(here.is_kept(answers, kept) for answers in options):
                return level
        raise AssertionError

    def test_lost_in_at_the_beginning(self):
        """Beside the ranks of the modes: at the beginning of a round, before anything is heard."""
        for rounds in some():
            works = rounds.works
            for mode in range(len(works)):
                plant = in_mode(works, mode)
                if plant is not None:
                    # What is not heard at moment 0 may have been heard there: so no more is lost than the rank tells.
                    told = plant.lost_in()
                    self.assertTrue(told is None or (rank(works, mode) is not None and told >= rank(works, mode)))


class Threats(Case):
    def test_threats_of_every_point(self):
        tried = 0
        for rounds in some():
            for mode in range(len(rounds.works)):
                plant = in_mode(rounds.works, mode)
                for point in points(plant) if plant else []:
                    threat = point.threat()
                    self.assertIs(threat is None, point.is_sure())
                    if threat is not None:
                        tried += 1
                        self.assertIs(self.judged(point, threat), True)
                        self.assertIs(point.is_threat(threat), True)
        self.assertGreater(tried, 1000)

    def judged(self, plant, thing):
        """Whether a pair is a threat, by the words of the document."""
        works, moment, heard = plant.works(), plant.moment(), plant.heard()
        task = kept_task(works, plant.mode())
        arrivals, answers = thing
        if seen_until(arrivals, moment) != heard:
            return False
        if plant.rung() is not None:
            if list(answers) != [plant.rung()]:
                return False
        elif sorted(answers, key=late) != [time for time in times_of(works.panel.length) if late(time) >= moment]:
            return False
        for time, environment in answers.items():
            if not is_environment(works.panel, environment) or is_right(task, environment, time):
                return False
            brought = arrivals_of(works.panel, environment)
            if plant.rung() is not None:
                if seen_until(brought, moment) != heard:
                    return False
            elif seen_until(brought, time) != seen_until(arrivals, time):
                return False
        return True

    def test_all_pairs_of_small_rounds(self):
        """All rows with drawn environments, wrong ones too."""
        told = []
        for rounds in some()[::3]:
            chance = random.Random(len(told))
            works = rounds.works
            for mode in range(len(works)):
                plant = in_mode(works, mode)
                for point in points(plant)[::2] if plant else []:
                    told += [self.draw(chance, rounds, point) for _ in range(6)]
        self.assertGreater(min(told.count(True), told.count(False)), 100)

    def draw(self, chance, rounds, point):
        length = rounds.works.panel.length
        arrivals = chance.choice(rows(len(point.heard()), length))
        if chance.random() < 0.8:
            arrivals = chance.choice([row for row in FromHere(rounds, point).rows])
        times = [time for time in times_of(length) if late(time) >= point.moment()]
        if point.rung() is not None:
            times = [point.rung()]
        task = kept_task(rounds.works, point.mode())
        answers = {}
        for time in times:
            fits = [one for one in rounds.every if seen_until(rounds.arrivals[one], time) == seen_until(arrivals, time)]
            if point.rung() is not None:
                fits = FromHere(rounds, point).every
            wrong = [one for one in fits if not is_right(task, one, time)]
            answers[time] = chance.choice((chance.random() < 0.95 and wrong) or rounds.every)
        thing = (arrivals, answers)
        if chance.random() < 0.1 and len(times) > 1:
            del answers[chance.choice(times)]
        elif chance.random() < 0.1:
            answers[chance.choice(times_of(length))] = chance.choice(rounds.every)
        fits = self.judged(point, thing)
        self.assertIs(point.is_threat(thing), fits)
        return fits

    def test_wrong(self):
        rules = [("r", ALWAYS, ((("rings", "b"),), ("never",))), ("s", ALWAYS, ((), ("first", ("b",), 0, 0)))]
        works = Works(VAGUE, LOST.cases, rules)
        plant = led(works, "tick", ("hear", "b"))
        arrivals, answers = plant.threat()
        self.same((arrivals, sorted(answers, key=late)), ((1,), [1, 2, None]))
        self.assertIs(plant.is_threat((arrivals, answers)), True)
        some_environment = answers[1]
        for thing in (
            *JUNK,
            [arrivals, answers],
            (list(arrivals), answers),
            (arrivals, answers, None),
            (arrivals, list(answers.items())),
            ((None,), answers),
            ((True,), answers),
            ((0,), answers),
            ((2,), answers),
            (arrivals, {**answers, 0: some_environment}),
            (arrivals, {time: answers[time] for time in (1, 2)}),
            (arrivals, {time: answers[time] for time in (2, None)}),
            (arrivals, {True: answers[1], 2: answers[2], None: answers[None]}),
            (arrivals, {1: answers[1], 2: answers[2], 3: answers[None]}),
            (arrivals, {1: answers[1], 2: answers[2], "None": answers[None]}),
            (arrivals, {**answers, 1: list(answers[1])}),
            (arrivals, {**answers, 1: None}),
            (arrivals, {**answers, 1: ((None,), (0,), 0)}),
            (arrivals, {**answers, 1: ((1,), (False,), 0)}),
            (arrivals, {**answers, 2: ((2,), (0,), 0)}),
        ):
            self.assertIs(plant.is_threat(thing), False, thing)
        plant.ring()
        arrivals, answers = plant.threat()
        self.same(list(answers), [1])
        self.assertIs(plant.is_threat((arrivals, answers)), True)
        for thing in (
            (arrivals, {True: answers[1]}),
            (arrivals, {1: answers[1], None: answers[1]}),
            (arrivals, {}),
            (arrivals, {2: answers[1]}),
            (arrivals, {None: answers[1]}),
            (arrivals, {1: ((2,), (0,), 0)}),
            ((None,), answers),
            ((2,), answers),
        ):
            self.assertIs(plant.is_threat(thing), False, thing)
        free = Plant(works.without("r").without("s"))
        for thing in (*JUNK, (arrivals, answers), None):
            self.assertIs(free.is_threat(thing), False)

    def test_new_each_time(self):
        plant = Plant(LOST)
        plant.tick()
        arrivals, answers = plant.threat()
        answers.clear()
        self.assertTrue(plant.threat()[1])


class Advice(Case):
    def test_who_follows_advice_keeps_every_promise(self):
        """From each point that is sure: all that advice lets, against all environments, for some rounds."""
        tried = 0
        for seed, rounds in enumerate(some()):
            chance = random.Random(seed)
            good = good_modes(rounds.works)
            for mode in range(len(rounds.works)):
                plant = in_mode(rounds.works, mode)
                if plant is None:
                    continue
                lapses = plant.broken()
                if mode in good:
                    self.assertIs(plant.is_sure(), True)
                for _ in range(4):
                    one = plant.copy()
                    for _ in range(4):
                        if not self.follow(chance, rounds, one, mode in good or one.mode() in good):
                            break
                        tried += 1
                        self.same(one.broken(), lapses)
                        self.assertIn(one.mode(), good)
        self.assertGreater(tried, 500)

    def follow(self, chance, rounds, plant, is_good):
        """A round by advice, sure at each point from the first hearing on; None if it is not sure there."""
        environment = chance.choice(rounds.every)
        panel = plant.works().panel
        for moment in range(panel.length + 1):
            for name, time in zip(panel.inputs, rounds.arrivals[environment]):
                if time == moment:
                    plant.hear(name)
                    self.assertTrue(plant.is_sure() or not is_good)
            if moment == 0 and not plant.is_sure():
                return self.assertFalse(is_good)
            self.assertIs(plant.is_sure(), True)
            advice = plant.advice()
            if advice is not None and advice[0] and (not advice[1] or chance.random() < 0.5):
                plant.ring()
                self.assertIs(plant.is_sure(), True)
            if moment < panel.length:
                plant.tick()
                is_good = plant.is_sure()
                self.assertIs(is_good, True)
        rung = plant.rung()
        plant.close(environment[0], None if rung is None else rung + environment[2])
        return True

    def test_a_mode_that_is_not_good_may_become_sure(self):
        # In the first round the output must ring just with b, which is heard one late, or at once.
        works = Works(VAGUE.with_slip(0), [], [("x", ("empty",), ((), ("first", ("b",), 0, 0)))])
        self.same(good_modes(works), (1,))
        plant = Plant(works)
        self.same((plant.is_sure(), plant.advice(), plant.lost_in()), (False, (False, False), 1))
        plant.hear("b")
        self.same((plant.is_sure(), plant.advice(), plant.lost_in()), (True, (True, False), None))
        plant.undo()
        plant.tick()
        self.same((plant.is_sure(), plant.lost_in()), (False, 1))

    def test_by_hand(self):
        works = Works(Panel(["b"], 2, {"b": (1, 1)}, 0), [], [("x", ALWAYS, ((), ("first", ("b",), 0, 1)))])
        plant = Plant(works)
        self.same(plant.advice(), (False, True))
        plant.tick()
        self.same(plant.advice(), (False, True))
        plant.hear("b")
        self.same((plant.advice(), plant.is_sure(), plant.threat(), plant.lost_in()), ((True, False), True, None, None))
        plant.tick()
        self.same((plant.advice(), plant.is_sure(), plant.lost_in()), ((False, False), False, 1))
        self.same(plant.threat(), ((1,), {2: ((0,), (1,), 0), None: ((0,), (1,), 0)}))
        plant.undo()
        plant.ring()
        self.same((plant.advice(), plant.is_sure()), (None, True))

    def test_two_arrivals_of_one_moment(self):
        panel = Panel(["b", "c"], 1, None, 0)
        both = (("rings", "b"), ("rings", "c"))
        rules = [("x", ("empty",), (both, ("first", ("b", "c"), 0, 0)))]
        works = Works(panel, [], rules + [("y", ("empty",), ((("silent", "c"),), ("never",)))])
        plant = led(works, ("hear", "b"))
        self.same((plant.advice(), plant.is_sure()), ((False, False), False))
        plant.hear("c")
        self.same((plant.advice(), plant.is_sure()), ((True, False), True))
        plant.ring()
        self.same(plant.is_sure(), True)

    def test_inputs_that_are_never_heard(self):
        panel = Panel(["b", "c"], 2, {"b": (0, 0), "c": (3, 3)}, 0)
        plant = Plant(Works(panel, [], [("x", ALWAYS, ((("rings", "b"),), ("first", ("c",), 0, 2)))]))
        for moment in range(3):
            self.refused(NotNow, plant.hear, "c", word="sight")
            if moment < 2:
                plant.tick()
        # If b does not ring any more, nothing is asked; if it does, c may have rung at any moment so far.
        self.same((plant.advice(), plant.is_sure()), ((True, True), True))
        plant.hear("b")
        self.same((plant.advice(), plant.is_sure()), ((True, False), True))
        plant.ring()
        self.same(plant.is_sure(), True)
        plant.close((2, 1), 2)
        self.same((plant.broken(), plant.book()), ((), [((2, 1), 2)]))

    def test_rung_at_the_last_moment(self):
        panel = Panel(["b"], 2, None, 1)
        plant = led(Works(panel, [], [("x", ALWAYS, ((), ("first", ("b",), 0, 1)))]), "tick", "tick", "ring")
        self.same((plant.is_sure(), plant.threat(), plant.lost_in()), (True, None, None))
        strict = led(Works(panel, [], [("x", ALWAYS, ((("silent", "b"),), ("never",)))]), "tick", "tick", "ring")
        self.same((strict.is_sure(), strict.lost_in()), (False, 1))
        self.same(strict.threat(), ((None,), {2: ((None,), (0,), 0)}))

    def test_three_inputs_and_length_8(self):
        panel = Panel(["p", "q", "r"], 8, None, 0)
        rules = [("x", ALWAYS, ((), ("latest", ("p", "q", "r"), 0, 1)))]
        works = Works(panel, [("a", (("gap", "p", "out", 1),))], rules)
        plant = Plant(works)
        for moment in range(9):
            if moment in (3, 5, 6):
                plant.hear("pqr"[(3, 5, 6).index(moment)])
            told = plant.advice()
            self.assertIn(told, list(itertools.product((True, False), repeat=2)))
            self.assertIs(plant.threat() is None, plant.is_sure())
            if moment < 8:
                plant.tick()


class Dooms(Case):
    def test_a_doom_led_against_a_plant(self):
        """Whatever is answered, moment by moment: a promise is broken within the rank."""
        tried = 0
        for rounds in some():
            works = rounds.works
            told = doom(works)
            if told is not None:
                for seed in range(6):
                    tried += 1
                    chance = random.Random(seed)
                    plant = Plant(works)
                    for _ in range(told[0][0]):
                        self.lead(chance, plant, told[plant.mode()][1])
                        if plant.broken():
                            break
                    self.same(plant.broken(), (len(plant.past()) - 1,))
        self.assertGreater(tried, 50)

    def lead(self, chance, plant, quarrel):
        """The row is heard until the output is rung, at whatever moment; then the environment for this moment comes."""
        arrivals, answers = quarrel
        panel = plant.works().panel
        time = chance.choice(times_of(panel.length))
        environment = answers[time]
        for moment in range(panel.length + 1):
            heard = arrivals if time is None or moment <= time else arrivals_of(panel, environment)
            for name, end in zip(panel.inputs, heard):
                if end == moment:
                    plant.hear(name)
            if time == moment:
                plant.ring()
            if moment < panel.length:
                plant.tick()
        plant.close(environment[0], None if time is None else time + environment[2])


if __name__ == "__main__":
    unittest.main()
