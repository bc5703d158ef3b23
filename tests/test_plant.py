"""Points 180 and 181: a plant, its deeds and what it tells."""

import itertools
import random
import unittest

from roundpromises.errors import (
    BadMoment,
    BadName,
    BadRow,
    BadWorks,
    NothingDone,
    NotNow,
    PromiseError,
    TooMany,
)
from roundpromises.forms import ALWAYS
from roundpromises.plant import Plant
from roundpromises.rows import rows
from roundpromises.sights import Panel, arrivals_of, environments
from roundpromises.terms import letter_of
from roundpromises.tables import constant
from roundpromises.works import Works
from tests.calls_works import EXACT, LOST, MORE, SOON, STILL, WORKS
from tests.helpers import JUNK, Case, panels, seen_until, times_of
from tests.small import ANY, FORMS, is_fine_round, letter_left, works_by

PAIR = Panel(["b", "c"], 2, {"b": (0, 1), "c": (1, 3)}, 1)
TWO = Works(PAIR, [("a", (("gap", "b", "out", 0),))], [])
RULE = ("r", ALWAYS, ((), ("never",)))


def led(works, *deeds):
    plant = Plant(works)
    for deed in deeds:
        do(plant, deed)
    return plant


def do(plant, deed):
    word, *parts = deed if isinstance(deed, tuple) else (deed,)
    getattr(plant, word)(*parts)


def state(plant):
    """All that a plant tells."""
    told = (plant.works(), plant.past(), plant.mode(), plant.moment(), plant.heard(), plant.rung(), plant.book())
    return told + (plant.broken(), plant.log(), plant.first(), len(plant), plant.advice(), plant.is_sure())


class Deeds(Case):
    def refuses(self, plant, error, deed, *parts, **attributes):
        ahead = state(plant)
        self.refused(error, getattr(plant, deed), *parts, **attributes)
        self.same(state(plant)[1:9], ahead[1:9])
        self.assertTrue(state(plant) == ahead)

    def test_at_first(self):
        plant = Plant(WORKS)
        self.same((plant.past(), plant.mode(), plant.moment(), plant.heard(), plant.rung()), ((), 0, 0, (None,), None))
        self.same((plant.book(), plant.broken(), plant.log(), len(plant)), ([], (), [], 0))
        self.assertTrue(plant.works() == WORKS and plant.first() == WORKS)
        for thing in JUNK:
            self.refused(BadWorks, Plant, thing, part=None)

    def test_deeds_return_none(self):
        plant = Plant(Works(EXACT, WORKS.cases, [SOON]))
        for word, *parts in (
            ("put", STILL),
            ("drop", "soon"),
            ("hear", "b"),
            ("ring",),
            ("tick",),
            ("close", (0,), 1),
            ("undo",),
        ):
            self.assertIsNone(getattr(plant, word)(*parts))

    def test_a_round(self):
        plant = led(TWO, ("hear", "b"), "tick", ("hear", "c"), "ring", "tick")
        self.same((plant.moment(), plant.heard(), plant.rung()), (2, (0, 1), 1))
        plant.close((0, 0), 2)
        self.same((plant.moment(), plant.heard(), plant.rung(), plant.past()), (0, (None, None), None, ("a",)))
        self.same(plant.book(), [((0, 0), 2)])
        wanted = [("hear", "b"), ("tick",), ("hear", "c"), ("ring",), ("tick",), ("close", (0, 0), 2)]
        self.same(plant.log(), wanted)
        self.same(len(plant), 6)

    def test_hear(self):
        plant = led(TWO, ("hear", "b"))
        for name in (*JUNK, "d", "out", "start", ["b"], ("b",)):
            self.refuses(plant, BadName, "hear", name)
        self.refuses(plant, NotNow, "hear", "b", word="heard")
        self.refuses(plant, NotNow, "hear", "c", word="sight")
        plant.ring()
        # What arrived already comes first, then the ringing, then what can be seen.
        self.refuses(plant, NotNow, "hear", "b", word="heard")
        self.refuses(plant, NotNow, "hear", "c", word="rung")
        self.refuses(plant, BadName, "hear", "d")
        plant.tick()
        self.refuses(plant, NotNow, "hear", "b", word="heard")
        plant.hear("c")
        self.same(plant.heard(), (0, 1))
        self.refuses(plant, NotNow, "hear", "c", word="heard")

    def test_hear_behind_a_ringing(self):
        plant = led(TWO, "tick", "ring", "tick", ("hear", "c"), ("hear", "b"))
        self.same((plant.heard(), plant.rung()), ((2, 2), 1))
        other = led(TWO, "tick", "ring")
        self.refuses(other, NotNow, "hear", "b", word="rung")

    def test_ring_and_tick(self):
        plant = led(WORKS, "ring")
        self.refuses(plant, NotNow, "ring", word="rung")
        plant.tick()
        self.refuses(plant, NotNow, "ring", word="rung")
        plant.tick()
        self.same(plant.moment(), 2)
        self.refuses(plant, NotNow, "tick", word="end")
        plant.close((None,), 1)
        plant.ring()
        self.same(plant.rung(), 0)
        last = led(WORKS, "tick", "tick", "ring")
        self.same((last.moment(), last.rung()), (2, 2))
        self.refuses(last, NotNow, "tick", word="end")

    def test_close_order(self):
        plant = led(TWO, ("hear", "b"), "tick")
        for row in (*JUNK, (0,), (0, 0, 0), [0, 0], (3, 0), (True, 0), (0, -1), ("0", 0)):
            self.refuses(plant, BadRow, "close", row, "?")
        for time in (*(thing for thing in JUNK if thing not in (None, 0, 1)), True, False, 5, -1, "1", [1], (1,)):
            self.refuses(plant, BadMoment, "close", (2, 2), time)
        self.refuses(plant, NotNow, "close", (2, 2), 4, word="end")
        self.refuses(plant, NotNow, "close", (0, None), None, word="end")
        plant.ring()
        self.refuses(plant, NotNow, "close", (2, 2), 4, word="row")
        self.refuses(plant, NotNow, "close", (1, 2), None, word="row")
        self.refuses(plant, NotNow, "close", (0, 2), 3, word="rung")
        self.refuses(plant, NotNow, "close", (0, 2), 0, word="rung")
        self.refuses(plant, NotNow, "close", (0, 2), None, word="rung")
        plant.close((0, 2), 2)
        self.same(plant.book(), [((0, 2), 2)])
        quiet = led(TWO, "tick", "tick")
        self.refuses(quiet, NotNow, "close", (None, 1), 2, word="rung")
        # c is heard by 1 or 2 or not at all with the delays from 1 to 3; b would have been heard.
        self.refuses(quiet, NotNow, "close", (0, 1), None, word="row")
        quiet.close((None, 0), None)
        self.same(quiet.past(), ("other",))

    def test_close_with_the_output_rung_above_the_length(self):
        works = WORKS.with_panel(EXACT.with_slip(2))
        plant = led(works, "tick", "tick", "ring", ("close", (None,), 4))
        self.same(plant.book(), [((None,), 4)])
        plant = led(works, "tick", "tick", "ring")
        self.refuses(plant, BadMoment, "close", (None,), 5)
        self.refuses(led(WORKS, "tick", "tick", "ring"), NotNow, "close", (None,), 4, word="rung")

    def test_put_and_drop(self):
        plant = Plant(MORE)
        plant.put(STILL)
        self.assertTrue(plant.works() == MORE.with_rule(STILL))
        self.assertTrue(plant.first() == MORE)
        self.refuses(plant, BadWorks, "put", STILL, part="rules")
        self.refuses(plant, BadWorks, "put", None, part="rules")
        for thing in JUNK:
            self.refuses(plant, BadWorks, "put", thing, part="rules")
            self.refuses(plant, BadName, "drop", thing)
        plant.drop(STILL[0])
        self.assertTrue(plant.works() == MORE)
        self.same(len(plant), 2)
        self.assertFalse(plant == Plant(MORE))
        self.same(plant.log(), [("put", STILL), ("drop", STILL[0])])

    def test_put_and_drop_within_a_round(self):
        for deeds in (["tick"], ["ring"], [("hear", "b")]):
            plant = led(WORKS, *deeds)
            self.refuses(plant, NotNow, "put", None, word="round")
            self.refuses(plant, NotNow, "put", RULE, word="round")
            self.refuses(plant, NotNow, "drop", None, word="round")
            self.refuses(plant, NotNow, "drop", "soon", word="round")
            plant.undo()
            plant.put(RULE)
            plant.drop("soon")

    def test_put_too_many(self):
        works = Works(EXACT, [], [(name, ALWAYS, ((), ("never",))) for name in "abcdef"])
        self.refuses(Plant(works), BadWorks, "put", RULE, part="rules")
        count = ANY
        for _ in range(4):
            count = ("then", count, count)
        plant = led(Works(EXACT, [], []), ("put", ("s", ("many", count), ((), ("never",)))))
        self.same(len(plant.works()), 16)
        three = ("many", ("then", ANY, ("then", ANY, ANY)))
        self.refuses(plant, TooMany, "put", ("t", three, ((), ("never",))), most=16)
        plant.drop("s")
        plant.put(("t", three, ((), ("never",))))

    def test_undo(self):
        plant = Plant(WORKS)
        self.refuses(plant, NothingDone, "undo")
        states = [state(plant)]
        deeds = ["ring", ("close", (None,), 0), ("drop", "soon"), ("put", SOON), "tick", "tick", ("close", (0,), None)]
        for deed in deeds[:-1]:
            do(plant, deed)
            states.append(state(plant))
        self.refuses(plant, NotNow, "close", (0,), None, word="row")
        for wanted in reversed(states[:-1]):
            plant.undo()
            self.assertTrue(state(plant) == wanted)
        self.refuses(plant, NothingDone, "undo")
        self.assertTrue(plant == Plant(WORKS))


class AllRounds(Case):
    """Hear and close against all environments of a panel."""

    def test_every_round_of_small_panels(self):
        count = 0
        for panel in [*panels(["b"], 1), *panels(["b"], 2, slips=(1,)), *panels(["b", "c"], 1, slips=(0,))[::2]]:
            count += self.rounds(Works(panel, [("a", (("rings", "out"),))], []), environments(panel))
        self.assertGreater(count, 20000)

    def rounds(self, works, every):
        """All points to which deeds of one round lead: what may be heard there, and how the round may be closed."""
        panel = works.panel
        arrivals = {environment: arrivals_of(panel, environment) for environment in every}
        closings = list(itertools.product(rows(len(panel.inputs), panel.length), [None, *range(panel.length + 3)]))
        count, left = 0, [Plant(works)]
        while left:
            plant = left.pop()
            moment, heard, rung = plant.moment(), plant.heard(), plant.rung()
            for at, name in enumerate(panel.inputs):
                more = heard[:at] + (moment,) + heard[at + 1 :]
                fits = any(seen_until(row, moment) == more for row in arrivals.values())
                fits = fits and heard[at] is None and rung != moment
                self.assertIs(self.goes(plant, left, "hear", name), fits)
            self.assertIs(self.goes(plant, left, "tick"), moment < panel.length)
            self.assertIs(self.goes(plant, left, "ring"), rung is None)
            over = rung is not None or moment == panel.length
            may = {(env[0], None if rung is None else rung + env[2]) for env in every if arrivals[env] == heard}
            for row, time in closings:
                count += 1
                self.assertIs(self.goes(plant, None, "close", row, time), over and (row, time) in may)
        return count

    def goes(self, plant, left, *deed):
        other = plant.copy()
        try:
            do(other, deed)
        except NotNow:
            self.assertEqual(other, plant)
            return False
        if left is not None:
            left.append(other)
        return True


class Telling(Case):
    def test_rounds_beside_the_document(self):
        """Drawn deeds; what the plant tells against what was done."""
        lapses = 0
        for seed in range(120):
            chance = random.Random(seed)
            works = works_by(seed)
            plant = Plant(works)
            past, book, broken, log = [], [], [], []
            for _ in range(6):
                if chance.random() < 0.4:
                    self.change(chance, plant, log)
                environment = chance.choice(environments(works.panel))
                time = chance.choice(times_of(works.panel.length))
                log += lead(plant, environment, time)
                mode = plant.works().mode_behind(tuple(past))
                if not is_fine_round(plant.works(), mode, environment, time):
                    broken.append(len(past))
                past.append(letter_left(works, environment, time))
                book.append((environment[0], None if time is None else time + environment[2]))
                log.append(("close", *book[-1]))
                plant.close(*book[-1])
                self.same((plant.past(), plant.book(), plant.broken()), (tuple(past), book, tuple(broken)))
                self.same(plant.mode(), plant.works().mode_behind(tuple(past)))
                self.same(plant.log(), log)
                self.same(len(plant), len(log))
            lapses += len(broken)
            self.assertTrue(plant == led(works, *log))
        self.assertGreater(lapses, 50)

    def change(self, chance, plant, log):
        names = plant.works().names
        if names and chance.random() < 0.5:
            deed = ("drop", chance.choice(names))
        else:
            deed = ("put", (chance.choice("xyzpq"), chance.choice(FORMS), ((), ("first", ("b",), 0, 1))))
        try:
            do(plant, deed)
        except PromiseError:
            return
        log.append(deed)

    def test_broken_by_the_works_of_that_round(self):
        plant = led(Works(EXACT, [], []), "ring", ("close", (None,), 0), ("put", RULE))
        self.same(plant.broken(), ())
        for deed in ("ring", ("close", (None,), 0), ("drop", "r"), "ring", ("close", (None,), 1)):
            do(plant, deed)
        self.same(plant.broken(), (1,))
        self.same(plant.past(), ("other",) * 3)

    def test_mode_in_the_works_as_it_is_now(self):
        cases = [("a", (("rings", "out"),))]
        plant = led(Works(EXACT, cases, []), "ring", ("close", (None,), 0))
        self.same((plant.mode(), plant.past()), (0, ("a",)))
        plant.put(("r", ("then", ALWAYS, ("one", "a")), ((), ("never",))))
        self.same((plant.mode(), plant.works().active(plant.mode())), (1, ("r",)))
        plant.drop("r")
        self.same(plant.mode(), 0)

    def test_the_letter_is_that_of_the_true_times(self):
        panel = Panel(["b"], 3, {"b": (0, 4)}, 2)
        cases = [("a", (("gap", "b", "out", 2),)), ("c", (("silent", "out"),))]
        for environment in environments(panel)[::3]:
            for time in times_of(3):
                plant = Plant(Works(panel, cases, []))
                lead(plant, environment, time)
                late_by = None if time is None else time + environment[2]
                plant.close(environment[0], late_by)
                self.same(plant.past(), (letter_of(cases, {"b": environment[0][0], "out": late_by}),))

    def test_what_is_told_is_new(self):
        plant = led(WORKS, "ring", ("close", (None,), 0), ("drop", "soon"), "ring")
        ahead = state(plant)
        plant.book().append(0)
        plant.log().clear()
        self.assertTrue(state(plant) == ahead)
        self.same((plant.book(), len(plant.log())), ([((None,), 0)], 4))

    def test_copy(self):
        plant = led(WORKS, "ring", ("close", (None,), 0), "ring")
        other = plant.copy()
        self.assertTrue(other == plant)
        other.tick()
        self.assertFalse(other == plant)
        self.same((plant.moment(), other.moment()), (0, 1))
        plant.undo()
        self.same((plant.rung(), other.rung()), (None, 0))
        for _ in range(4):
            other.undo()
        self.refused(NothingDone, other.undo)
        self.same(len(plant), 2)

    def test_equal(self):
        plant = led(WORKS, "ring")
        self.assertTrue(plant == led(WORKS, "ring") and not plant != led(WORKS, "ring"))
        self.assertFalse(plant == Plant(WORKS))
        self.assertFalse(plant == led(MORE, "ring"))
        self.assertFalse(led(LOST) == led(WORKS))
        done = led(WORKS, "tick")
        done.undo()
        self.assertTrue(done == Plant(WORKS))
        for thing in (*JUNK, WORKS, [("ring",)], constant(1, 2, 0)):
            self.assertFalse(plant == thing)


def lead(plant, environment, time):
    """Lead a round by an environment and the time of the answer, until it can be closed; the deeds."""
    panel = plant.works().panel
    arrivals = arrivals_of(panel, environment)
    done = []
    for moment in range(panel.length + 1):
        for name, heard in zip(panel.inputs, arrivals):
            if heard == moment:
                done.append(("hear", name))
        if time == moment:
            done.append(("ring",))
        if moment < panel.length:
            done.append(("tick",))
    for deed in done:
        do(plant, deed)
    return done


class Tried(Case):
    def test_result(self):
        plant = Plant(WORKS)
        met = []

        def work(found):
            met.append(found)
            found.ring()
            return [found.rung()]

        self.same(plant.tried(work), [0])
        self.assertEqual(len(met), 1)
        self.assertIs(met[0], plant)
        self.same(plant.log(), [("ring",)])
        self.assertIsNone(plant.tried(lambda found: None))
        self.assertIsNone(plant.tried(lambda found: found.tick()))
        self.same(plant.moment(), 1)

    def test_exceptions_of_whatever_kind(self):
        errors = [ValueError("x"), KeyError(1), ZeroDivisionError(), KeyboardInterrupt(), SystemExit(), Odd()]
        for error in (*errors, NotNow("x"), StopIteration(), GeneratorExit()):
            plant = led(WORKS, "ring", "tick")
            ahead = state(plant)

            def work(found):
                found.tick()
                for _ in range(3):
                    found.undo()
                found.hear("b")
                found.tick()
                raise error

            with self.assertRaises(type(error)) as caught:
                plant.tried(work)
            self.assertIs(caught.exception, error)
            self.assertTrue(state(plant) == ahead)
            plant.undo()
            self.same(plant.log(), [("ring",)])

    def test_errors_of_the_plant_itself(self):
        plant = led(WORKS, "tick")

        def work(found):
            found.ring()
            found.ring()

        self.refused(NotNow, plant.tried, work, word="rung")
        self.same(plant.log(), [("tick",)])

        def undo_all(found):
            while True:
                found.undo()

        self.refused(NothingDone, plant.tried, undo_all)
        self.same((plant.log(), plant.moment()), ([("tick",)], 1))

    def test_undo_of_earlier_deeds_stays_if_all_goes_well(self):
        plant = led(WORKS, "tick", "tick")
        plant.tried(lambda found: found.undo())
        self.same(plant.log(), [("tick",)])

    def test_nested(self):
        plant = led(WORKS, "tick")
        seen = []

        def inner(found):
            found.undo()
            found.ring()
            raise KeyError("inner")

        def outer(found):
            found.tick()
            try:
                found.tried(inner)
            except KeyError:
                seen.append(found.log())
            found.undo()
            found.ring()
            raise LookupError("outer")

        with self.assertRaises(LookupError):
            plant.tried(outer)
        self.same(seen, [[("tick",), ("tick",)]])
        self.same((plant.log(), plant.moment(), plant.rung()), ([("tick",)], 1, None))

        def through(found):
            found.tick()
            found.tried(inner)

        with self.assertRaises(KeyError):
            plant.tried(through)
        self.same(plant.log(), [("tick",)])

    def test_works_that_were_put(self):
        plant = Plant(MORE)

        def work(found):
            found.put(STILL)
            found.drop(SOON[0])
            raise RuntimeError

        with self.assertRaises(RuntimeError):
            plant.tried(work)
        self.assertTrue(plant.works() == MORE and plant == Plant(MORE))

    def test_what_is_no_work(self):
        plant = led(WORKS, "tick")
        with self.assertRaises(TypeError):
            plant.tried(None)
        self.same(plant.log(), [("tick",)])


class Odd(BaseException):
    """An exception that is no Exception."""


if __name__ == "__main__":
    unittest.main()
