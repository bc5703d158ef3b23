"""Small works for the tests, and what their rounds bring, told by the words of the document alone."""

import functools
import itertools
import random

from roundpromises.errors import TooMany
from roundpromises.forms import ALWAYS
from roundpromises.promises import allowed
from roundpromises.sights import Panel, arrivals_of, environments
from roundpromises.terms import letter_of
from roundpromises.works import Works
from tests.helpers import all_tables

ANY = ("any",)
BEHIND_A = ("then", ALWAYS, ("one", "a"))
BEFORE_LAST_A = ("then", ALWAYS, ("then", ("one", "a"), ANY))
FORMS = (
    ALWAYS,
    ("empty",),
    ("not", ("empty",)),
    BEHIND_A,
    ("not", BEHIND_A),
    BEFORE_LAST_A,
    ("then", ALWAYS, ("then", ("one", "a"), ("one", "a"))),
    ("many", ("then", ANY, ANY)),
    ("many", ("either", ("one", "a"), ("then", ("one", "other"), ("one", "other")))),
    ("then", ("one", "a"), ALWAYS),
    ("both", ALWAYS, ("not", ("many", ("one", "a")))),
)
CASES = (
    (("a", (("rings", "out"),)),),
    (("a", (("rings", "b"),)),),
    (("a", (("gap", "b", "out", 1),)),),
    (("a", (("gap", "out", "b", 0),)), ("c", (("silent", "out"),))),
    (("a", (("rings", "out"), ("rings", "b"))), ("c", (("rings", "b"),)), ("d", (("rings", "out"),))),
)
PROMISES = (
    ((), ("first", ("b",), 0, 0)),
    ((), ("first", ("b",), 0, 1)),
    ((), ("first", ("b",), 1, 2)),
    ((("rings", "b"),), ("never",)),
    ((("silent", "b"),), ("never",)),
    ((("silent", "b"),), ("first", ("start",), 0, 1)),
    ((), ("first", ("start",), 1, 1)),
    ((), ("latest", ("b",), -1, 1)),
    ((("gap", "start", "b", 1),), ("first", ("start",), 0, 0)),
)


def works_by(seed, most_rules=3, lengths=(1, 2), slips=(0, 0, 1)):
    """A small works with one input, another one for each seed."""
    chance = random.Random(seed)
    while True:
        length = chance.choice(lengths)
        least = chance.randint(0, 1)
        panel = Panel(["b"], length, {"b": (least, chance.randint(least, 2))}, chance.choice(slips))
        rules = [
            (name, chance.choice(FORMS), chance.choice(PROMISES))
            for name in ("x", "y", "z")[: chance.randint(1, most_rules)]
        ]
        try:
            works = Works(panel, chance.choice(CASES), rules)
        except TooMany:
            continue
        if len(works) <= 9:
            return works


def free_works(seed):
    """A small works whose letters hang on the answers alone, wherever no rule asks for one of them."""
    chance = random.Random(seed)
    cases = (("a", (("gap", "out", "start", 0),)), ("c", (("rings", "out"),)))
    asked = (("first", ("start",), 0, 0), ("first", ("start",), 1, 1), ("first", ("start",), 0, 1), ("never",))
    rules = [(name, chance.choice(FORMS), ((), chance.choice(asked))) for name in ("x", "y")[: chance.randint(1, 2)]]
    works = Works(Panel(["b"], 1, None, 0), cases, rules)
    return works if len(works) <= 9 else free_works(seed + 5000)


@functools.lru_cache(None)
def tables_of(length, size=1):
    return all_tables(size, length)


def ringing(environment, time):
    return None if time is None else time + environment[2]


def is_fine_round(works, mode, environment, time):
    """Whether all promises of the active rules allow a round's ringing."""
    asked = [promise for name, _, promise in works.rules if name in works.active(mode)]
    span, may = allowed(asked, works.panel.inputs, environment[0])
    late = ringing(environment, time)
    return may if late is None else span is not None and span[0] <= late <= span[1]


def letter_left(works, environment, time):
    times = {**dict(zip(works.panel.inputs, environment[0])), "out": ringing(environment, time)}
    return letter_of(works.cases, times)


class Rounds:
    """For each mode of a works: what each Table does, as the set of the letters that it may leave."""

    def __init__(self, works):
        self.works = works
        self.every = environments(works.panel)
        self.tables = tables_of(works.panel.length, len(works.panel.inputs))
        self.arrivals = {environment: arrivals_of(works.panel, environment) for environment in self.every}
        self.fits = {}
        self.letters = {}
        times = [*range(works.panel.length + 1), None]
        for environment in self.every:
            for time in times:
                self.letters[environment, time] = letter_left(works, environment, time)
                for mode in range(len(works)):
                    self.fits[mode, environment, time] = is_fine_round(works, mode, environment, time)
        self.options = {mode: self.all_options(mode) for mode in range(len(works))}

    def left_by(self, mode, table):
        """The letters that a Table may leave; None if it may break a promise of the mode."""
        found = set()
        answers = table.answers()
        for environment in self.every:
            time = answers[self.arrivals[environment]]
            if not self.fits[mode, environment, time]:
                return None
            found.add(self.letters[environment, time])
        return frozenset(found)

    def all_options(self, mode):
        """All least sets of letters to which a Table can hold its rounds in a mode, no promise being broken."""
        found = {self.left_by(mode, table) for table in self.tables} - {None}
        return [letters for letters in found if not any(other < letters for other in found)]

    def goes(self, mode, letters):
        """The pairs (letter, mode behind) of a set of letters."""
        ways = self.works.ways(mode)
        return [(letter, ways[letter]) for letter in sorted(letters)]

    def good(self):
        """The greatest set of modes each of which has an option that stays in it."""
        modes = set(self.options)
        left = None
        while left != modes:
            left = modes
            modes = {
                mode
                for mode in left
                if any(all(to in left for _, to in self.goes(mode, letters)) for letters in self.options[mode])
            }
        return modes

    def plans(self):
        """All ways to choose one option in each mode that has one."""
        modes = [mode for mode in self.options if self.options[mode]]
        for choice in itertools.product(*[self.options[mode] for mode in modes]):
            yield dict(zip(modes, choice))


def reached(start, ways):
    """All that ways, a function from a place to places, lead to from a start."""
    found, left = {start}, [start]
    while left:
        for place in ways(left.pop()):
            if place not in found:
                found.add(place)
                left.append(place)
    return found
