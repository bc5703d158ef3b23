"""Point 190: journals of plants."""

import itertools
import random
import unittest

from roundpromises.errors import BadJournal, BadPlant, BadWorks, PromiseError
from roundpromises.journals import first_wrong, journal_of, picture, replayed
from roundpromises.plant import Plant
from roundpromises.sights import environments
from tests.calls_works import MORE, SOON, STILL, WORKS
from tests.helpers import JUNK, Case, times_of
from tests.small import works_by
from tests.test_plant import do, lead, led

DEEDS = [("ring",), ("tick",), ("hear", "b"), ("close", (1,), 0), ("drop", "soon"), ("put", SOON), ("tick",)]
PLANT = led(WORKS, *DEEDS[:4], ("drop", "still"), ("put", STILL), ("tick",))
JOURNAL = journal_of(PLANT)


def drawn(seed):
    """A plant led through some deeds, whatever they break."""
    chance = random.Random(seed)
    plant = Plant(works_by(seed))
    for _ in range(chance.randint(0, 3)):
        environment = chance.choice(environments(plant.works().panel))
        time = chance.choice(times_of(plant.works().panel.length))
        if chance.random() < 0.5 and plant.works().names:
            plant.drop(plant.works().names[0])
        lead(plant, environment, time)
        plant.close(environment[0], None if time is None else time + environment[2])
    for _ in range(chance.randint(0, 2)):
        try:
            do(plant, chance.choice(["tick", "ring", ("hear", "b")]))
        except PromiseError:
            pass
    return plant


def told(plant):
    return (plant.mode(), plant.moment(), plant.heard(), plant.rung())


class Journals(Case):
    def test_picture(self):
        self.same(picture(Plant(WORKS)), (0, 0, (None,), None))
        self.same(picture(PLANT), (1, 1, (None,), None))
        self.same(picture(led(WORKS, "tick", ("hear", "b"), "ring")), (0, 1, (1,), 1))
        for thing in (*JUNK, WORKS, [], JOURNAL):
            self.refused(BadPlant, picture, thing)
            self.refused(BadPlant, journal_of, thing)

    def test_journal_of(self):
        self.same(journal_of(Plant(WORKS)), [])
        self.same(
            journal_of(led(WORKS, "ring", "tick", ("hear", "b"), ("close", (1,), 0))),
            [
                (("ring",), (0, 0, (None,), 0)),
                (("tick",), (0, 1, (None,), 0)),
                (("hear", "b"), (0, 1, (1,), 0)),
                (("close", (1,), 0), (1, 0, (None,), None)),
            ],
        )

    def test_the_journal_of_a_plant_leads_to_an_equal_one(self):
        for seed in range(150):
            plant = drawn(seed)
            journal = journal_of(plant)
            self.same([deed for deed, _ in journal], plant.log())
            self.assertIsNone(first_wrong(plant.first(), journal))
            other = replayed(plant.first(), journal)
            self.assertTrue(other == plant)
            self.same(told(other), told(plant))
            self.assertTrue(replayed(plant.first(), tuple(journal)) == plant)
            # The part of a journal is one, too: that of the plant at this point.
            one = Plant(plant.first())
            for at, (deed, shown) in enumerate(journal):
                do(one, deed)
                self.same(shown, told(one))
                self.assertTrue(replayed(plant.first(), journal[: at + 1]) == one)

    def test_undo(self):
        empty = (0, 0, (None,), None)
        self.assertIsNone(first_wrong(WORKS, [(("ring",), (0, 0, (None,), 0)), (("undo",), empty)]))
        self.assertTrue(replayed(WORKS, [(("ring",), (0, 0, (None,), 0)), (("undo",), empty)]) == Plant(WORKS))
        self.same(first_wrong(WORKS, [(("undo",), empty)]), 0)
        self.same(first_wrong(WORKS, [(("tick",), (0, 1, (None,), None)), (("undo",), empty), (("undo",), empty)]), 2)
        closed = JOURNAL[:4] + [(("undo",), JOURNAL[2][1]), (("undo",), JOURNAL[1][1])]
        self.assertIsNone(first_wrong(WORKS, closed))
        self.same(replayed(WORKS, closed).log(), [("ring",), ("tick",)])

    def test_changed_at_one_place(self):
        """Another deed or another picture in one item, against a plant of the test's own."""
        changed = 0
        for seed in range(0, 60, 4):
            plant = drawn(seed)
            journal = journal_of(plant)
            others = [deed for deed, _ in journal] + DEEDS + [("undo",), ("close", (0,), None), ("hear", "c")]
            for at, (deed, shown) in enumerate(journal):
                for other in others:
                    self.judge(plant.first(), journal[:at] + [(other, shown)] + journal[at + 1 :])
                for part, value in itertools.product(range(4), (0, 1, 2, None, (None,), (0,), (1,), (None, None))):
                    other = shown[:part] + (value,) + shown[part + 1 :]
                    self.judge(plant.first(), journal[:at] + [(deed, other)] + journal[at + 1 :])
                    changed += 1
        self.assertGreater(changed, 1000)

    def judge(self, works, journal):
        plant = Plant(works)
        wanted = None
        for at, (deed, shown) in enumerate(journal):
            try:
                do(plant, deed)
            except PromiseError:
                wanted = at
                break
            if repr(told(plant)) != repr(shown):
                wanted = at
                break
        self.same(first_wrong(works, journal), wanted)
        if wanted is None:
            self.assertTrue(replayed(works, journal) == plant)
        else:
            self.refused(BadJournal, replayed, works, journal, at=wanted)

    def test_what_is_no_list(self):
        for thing in (*[thing for thing in JUNK if not isinstance(thing, (list, tuple))], dict(JOURNAL), PLANT):
            self.same(first_wrong(WORKS, thing), 0)
            self.refused(BadJournal, replayed, WORKS, thing, at=0)
        for thing in ([], ()):
            self.assertIsNone(first_wrong(WORKS, thing))
            self.assertTrue(replayed(WORKS, thing) == Plant(WORKS))

    def test_wrong_items(self):
        (deed, shown), (close, behind) = JOURNAL[2], JOURNAL[3]
        self.same(close, ("close", (1,), 0))
        for item in (
            *JUNK,
            list(JOURNAL[2]),
            (deed,),
            (deed, shown, None),
            (list(deed), shown),
            (deed, list(shown)),
            (deed, (0, 1, [1], 0)),
            (deed, (0, True, (1,), 0)),
            (deed, (False, 1, (1,), 0)),
            (deed, (0, 1, (True,), 0)),
            (deed, (0, 1, (1,), False)),
            (deed, (0, 1, (1,))),
            (deed, (0, 1, (1,), 0, 0)),
            (deed, (0, 1, (1, 1), 0)),
            (deed, (0, 1, (1,), None)),
            (deed, (0, 1, ("1",), 0)),
            (deed, None),
            (("hear",), shown),
            (("hear", "b", "b"), shown),
            (("hear", ["b"]), shown),
            ("hear", shown),
            ((), shown),
            (("heard", "b"), shown),
            ((1, "b"), shown),
            ((["hear"], "b"), shown),
            (("__init__", WORKS), shown),
            (("copy",), shown),
            (("moment",), shown),
            (("tried", None), shown),
            (("ring",), shown),
        ):
            self.same(first_wrong(WORKS, JOURNAL[:2] + [item] + JOURNAL[3:]), 2)
            self.refused(BadJournal, replayed, WORKS, JOURNAL[:2] + [item] + JOURNAL[3:], at=2)
        for parts in (([1], 0), ((1,), False), ((True,), 0), ((1,),), (1, 0)):
            deed = ("close", *parts)
            self.same(first_wrong(WORKS, JOURNAL[:3] + [(deed, behind)] + JOURNAL[4:]), 3)
        for put in (("put", list(STILL)), ("put", None), ("put",), ("put", STILL, STILL)):
            self.same(first_wrong(MORE, [(put, (0, 0, (None,), None))]), 0)
        self.assertIsNone(first_wrong(MORE, [(("put", STILL), (0, 0, (None,), None))]))

    def test_works_come_first(self):
        for thing in JUNK:
            self.refused(BadWorks, first_wrong, thing, None, part=None)
            self.refused(BadWorks, replayed, thing, None, part=None)

    def test_what_is_returned_is_new(self):
        plant = replayed(WORKS, JOURNAL)
        plant.undo()
        self.assertTrue(replayed(WORKS, JOURNAL) == PLANT)
        journal_of(PLANT).clear()
        self.assertTrue(journal_of(PLANT))

    def test_sixty_items(self):
        tick = ("tick",), (0, 1, (None,), None)
        back = ("undo",), (0, 0, (None,), None)
        self.assertIsNone(first_wrong(WORKS, [tick, back] * 30))
        self.same(first_wrong(WORKS, [tick, back] * 29 + [back, tick]), 58)


if __name__ == "__main__":
    unittest.main()
