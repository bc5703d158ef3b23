"""Point 136: what the shift book must tell of the letters."""

import itertools
import random
import unittest

from roundpromises.errors import (
    BadLedger,
    BadMode,
    BadMoment,
    BadName,
    BadRow,
    BadSeen,
    BadSplit,
    BadView,
    BadWorks,
    TooMany,
)
from roundpromises.ever import good_modes
from roundpromises.forms import ALWAYS
from roundpromises.ledgers import (
    blind_spot,
    can_do_with,
    coarsest_splits,
    course_to,
    finest_gaps,
    is_blind_spot,
    is_safe_view,
    is_wit,
    ledger_of,
    view_left,
    wit,
)
from roundpromises.sights import Panel, arrivals_of, environments
from roundpromises.tables import constant
from roundpromises.works import Works
from tests.calls_works import EXACT
from tests.helpers import JUNK, Case, seen_until, times_of
from tests.small import ANY, free_works, is_fine_round, letter_left, tables_of, works_by

# x and y are drawn by b, which is not seen; behind x the output must ring, behind y it must not.
CASES = [("x", (("gap", "b", "start", 0),)), ("y", (("rings", "b"),))]
BEHIND_X = ("then", ALWAYS, ("one", "x"))
BEHIND_Y = ("then", ALWAYS, ("one", "y"))
BEHIND_OTHER = ("then", ALWAYS, ("one", "other"))
BLIND = Panel(["b"], 1, {"b": (2, 2)}, 0)
MUST = ((), ("first", ("start",), 0, 0))
MAY_NOT = ((), ("never",))
WORKS = Works(BLIND, CASES, [("must", BEHIND_X, MUST), ("not", BEHIND_Y, MAY_NOT)])
PLAIN = {"x": "p", "y": "q", "other": "q"}
MIXED = {"x": "p", "y": "p", "other": "q"}


def subsets(items):
    for many in range(1, len(items) + 1):
        yield from itertools.combinations(items, many)


def ledger_by(works, seed):
    chance = random.Random(seed)
    return {letter: chance.choice(["p", "q", "r"]) for letter in works.letters}


def some(count, most=4):
    for seed in range(count):
        for works in (works_by(seed, lengths=(1, 2) if seed % 4 else (2,)), free_works(seed)):
            if len(works) <= most:
                yield seed, works


class Views:
    """All views of a works with a ledger, and for each the sets of views to which Tables may lead."""

    def __init__(self, works, ledger):
        self.works, self.ledger = works, ledger
        self.every = list(subsets(range(len(works))))
        self.environments = environments(works.panel)
        self.arrivals = {environment: arrivals_of(works.panel, environment) for environment in self.environments}
        self.letters, self.fits, self.lefts = {}, {}, {}
        self.times = times_of(works.panel.length)
        for environment, time in itertools.product(self.environments, self.times):
            self.letters[environment, time] = letter_left(works, environment, time)
            for mode in range(len(works)):
                self.fits[mode, environment, time] = is_fine_round(works, mode, environment, time)
        self.tables = [table.answers() for table in tables_of(works.panel.length)]
        self.options = {view: self.all_options(view) for view in self.every}

    def left(self, view, arrivals, time, name):
        """Point 136 word by word."""
        if (view, arrivals, time, name) not in self.lefts:
            found = set()
            for environment in self.environments:
                letter = self.letters[environment, time]
                if self.arrivals[environment] == arrivals and self.ledger[letter] == name:
                    found |= {self.works.ways(mode)[letter] for mode in view}
            self.lefts[view, arrivals, time, name] = tuple(sorted(found))
        return self.lefts[view, arrivals, time, name]

    def led_to(self, view, answers):
        """The views to which answers may lead; None if they may break a promise of some mode."""
        found = set()
        for environment in self.environments:
            arrivals = self.arrivals[environment]
            time = answers[arrivals]
            if not all(self.fits[mode, environment, time] for mode in view):
                return None
            found.add(self.left(view, arrivals, time, self.ledger[self.letters[environment, time]]))
        return frozenset(found)

    def all_options(self, view):
        found = {self.led_to(view, answers) for answers in self.tables} - {None}
        return [views for views in found if not any(other < views for other in found)]

    def safe(self):
        """The greatest set of views for each of which there is a fit Table."""
        views, left = set(self.every), None
        while left != views:
            left = views
            views = {view for view in left if any(option <= left for option in self.options[view])}
        return views


class Safe(Case):
    def test_all_sets_of_views(self):
        """On the smallest works: the union of all sets of views for which each of them has a fit Table."""
        tried = lost = 0
        for seed, works in some(40, most=3):
            views = Views(works, ledger_by(works, seed))
            found = set()
            for chosen in subsets(views.every):
                if not set(chosen) <= found:
                    if all(any(option <= set(chosen) for option in views.options[view]) for view in chosen):
                        found |= set(chosen)
            self.assertEqual(found, views.safe())
            for view in views.every:
                self.assertIs(is_safe_view(works, views.ledger, view), view in found)
                tried, lost = tried + 1, lost + (view not in found)
        self.assertTrue(30 < lost < tried - 30)

    def test_safe_views_wits_and_blind_spots(self):
        wits = spots = 0
        for seed, works in some(50):
            views = Views(works, ledger_by(works, seed))
            ledger, safe = views.ledger, views.safe()
            self.assertIs(can_do_with(works, ledger), (0,) in safe)
            for view in views.every:
                told = is_safe_view(works, ledger, view)
                self.assertIs(told, view in safe)
                for less in subsets(view):
                    self.assertTrue(less in safe or not told)
            told, asked = wit(works, ledger), blind_spot(works, ledger)
            self.assertEqual((told is None, asked is None), ((0,) not in safe, (0,) in safe))
            if told is not None:
                wits += 1
                self.assertIs(is_wit(works, ledger, told), True)
                self.assertEqual(list(told), sorted(told))
                for view, table in told.items():
                    self.assertTrue(views.led_to(view, table.answers()) <= set(told))
            else:
                spots += 1
                self.assertIs(is_blind_spot(works, ledger, asked), True)
                self.assertEqual(list(asked), sorted(asked))
                self.lead(views, asked, (0,), [])
        self.assertGreater(min(wits, spots), 20)

    def lead(self, views, told, view, seen):
        """Whatever is answered: within the rank there is a course with what was seen in which a promise is broken."""
        works, ledger = views.works, views.ledger
        rank, (arrivals, answers) = told[view]
        self.assertLessEqual(len(seen) + rank, told[0,][0])
        for time in views.times:
            environment = answers[time]
            heard = views.arrivals[environment]
            self.assertEqual(seen_until(heard, time), seen_until(arrivals, time))
            broken = [mode for mode in view if not views.fits[mode, environment, time]]
            if broken:
                self.judge_course(works, ledger, seen, course_to(works, ledger, seen, broken[0]), broken[0])
            else:
                name = ledger[views.letters[environment, time]]
                then = views.left(view, heard, time, name)
                self.assertLess(told[then][0], rank)
                if len(seen) < 3:
                    self.lead(views, told, then, seen + [(heard, time, name)])

    def judge_course(self, works, ledger, seen, course, mode):
        self.assertEqual(len(course), len(seen))
        at = 0
        for environment, (arrivals, time, name) in zip(course, seen):
            self.assertIn(environment, environments(works.panel))
            self.same(arrivals_of(works.panel, environment), arrivals)
            letter = letter_left(works, environment, time)
            self.same(ledger[letter], name)
            at = works.ways(at)[letter]
        self.same(at, mode)

    def test_unlike_names_for_unlike_letters(self):
        for _, works in some(40, most=6):
            ledger = dict(zip(works.letters, "pqrs"))
            for mode in range(len(works)):
                self.assertIs(is_safe_view(works, ledger, (mode,)), mode in good_modes(works))

    def test_by_hand(self):
        # Behind y nothing may ring, behind "other" all may: so both may have one name. Behind x it must ring.
        self.same((can_do_with(WORKS, PLAIN), can_do_with(WORKS, MIXED)), (True, False))
        every = {"x": "p", "y": "q", "other": "r"}
        self.same(can_do_with(WORKS, every), True)
        self.same(is_safe_view(WORKS, every, (0, 2)), True)
        self.same(is_safe_view(WORKS, every, (0, 1)), True)
        self.same(is_safe_view(WORKS, every, (1, 2)), False)
        self.same(good_modes(WORKS), (0, 1, 2))

    def test_a_table_must_do_for_each_mode(self):
        every = {"x": "p", "y": "q", "other": "r"}
        thing = {(0,): constant(1, 1, 0), (1,): constant(1, 1, 0), (2,): constant(1, 1, None)}
        self.assertIs(is_wit(WORKS, every, thing), True)
        self.assertIs(is_wit(WORKS, every, {**thing, (0, 2): constant(1, 1, None)}), True)
        self.assertIs(is_wit(WORKS, every, {**thing, (0, 2): constant(1, 1, 0)}), False)
        self.assertIs(is_wit(WORKS, every, {**thing, (1, 2): constant(1, 1, None)}), False)
        self.assertIs(is_wit(WORKS, every, {**thing, (2,): constant(1, 1, 0)}), False)


class Left(Case):
    def test_view_left(self):
        found = set()
        for seed, works in some(12):
            views = Views(works, ledger_by(works, seed))
            for view in views.every:
                for arrivals in [(time,) for time in views.times]:
                    for time, name in itertools.product(views.times, sorted(set(views.ledger.values()))):
                        wanted = views.left(view, arrivals, time, name)
                        self.same(view_left(works, views.ledger, view, arrivals, time, name), wanted)
                        found.add(len(wanted))
        self.assertTrue({0, 1, 2} <= found)

    def test_by_hand(self):
        self.same(view_left(WORKS, MIXED, (0,), (None,), 0, "p"), (1, 2))
        self.same(view_left(WORKS, MIXED, (1, 2), (None,), None, "q"), (0,))
        self.same(view_left(WORKS, MIXED, (0,), (1,), 0, "p"), ())

    def test_course_to(self):
        found = set()
        for seed, works in some(30):
            ledger = ledger_by(works, seed)
            every = environments(works.panel)
            chance = random.Random(seed)
            for many in range(3):
                # What was seen: of a course that there is, or of none.
                seen = []
                for environment in chance.choices(every, k=many):
                    time = chance.choice(times_of(works.panel.length))
                    name = ledger[letter_left(works, environment, time)]
                    if chance.random() < 0.2:
                        name = chance.choice(sorted(set(ledger.values())))
                    seen.append((arrivals_of(works.panel, environment), time, name))
                ends = self.ends(works, ledger, seen)
                for mode in range(len(works)):
                    told = course_to(works, ledger, seen, mode)
                    self.assertEqual(told is not None, mode in ends)
                    found.add(told is None)
                    if told is not None:
                        self.assertIsInstance(told, list)
                        Safe.judge_course(self, works, ledger, seen, told, mode)
        self.assertEqual(found, {True, False})

    def ends(self, works, ledger, seen):
        """The modes to which all lists of environments lead that fit what was seen."""
        modes = {0}
        for arrivals, time, name in seen:
            letters = {
                letter_left(works, environment, time)
                for environment in environments(works.panel)
                if arrivals_of(works.panel, environment) == arrivals
            }
            modes = {works.ways(mode)[letter] for mode in modes for letter in letters if ledger[letter] == name}
        return modes

    def test_nothing_seen_and_much(self):
        self.same(course_to(WORKS, MIXED, [], 0), [])
        self.same(course_to(WORKS, MIXED, (), 1), None)
        eight = [((None,), 0, "p")] * 8
        self.same(len(course_to(WORKS, MIXED, eight, 1)), 8)
        self.same(course_to(WORKS, MIXED, eight, 0), None)
        self.refused(BadSeen, course_to, WORKS, MIXED, eight + eight[:1], 0, at=None)


class Splits(Case):
    def all_splits(self, letters):
        """All ways to part the letters: each letter is given the number of a part."""
        found = {}
        for numbers in itertools.product(range(len(letters)), repeat=len(letters)):
            parts = {}
            for letter, number in zip(letters, numbers):
                parts.setdefault(number, []).append(letter)
            found[tuple(tuple(part) for part in parts.values())] = True
        return list(found)

    def put_together(self, letters, split):
        """All splits that come by putting two tuples together."""
        for one, other in itertools.combinations(split, 2):
            both = tuple(letter for letter in letters if letter in one + other)
            parts = [part for part in split if part not in (one, other)] + [both]
            yield tuple(sorted(parts, key=lambda part: letters.index(part[0])))

    def many_letters(self):
        yield WORKS
        yield Works(EXACT, [], [("x", ALWAYS, MUST)])
        yield Works(EXACT, [], [])
        four = [("x", (("gap", "b", "start", 0),)), ("y", (("gap", "b", "start", -1),)), ("z", (("rings", "b"),))]
        blind = Panel(["b"], 2, {"b": (3, 3)}, 0)
        asks = {"x": MUST, "y": MAY_NOT, "z": ((), ("first", ("start",), 1, 1))}
        for letters in ("xyz", "xy", "yz", "xzz", "x"):
            rules = []
            for name, letter in zip("klm", letters):
                rules.append((name, ("then", ALWAYS, ("one", letter)), asks[letter]))
            yield Works(blind, four, rules)
        yield Works(blind, four, [("k", BEHIND_X, MUST), ("l", BEHIND_Y, ((), ("first", ("start",), 0, 1)))])
        either = ("then", ALWAYS, ("either", ("one", "x"), ("one", "y")))
        yield Works(blind, four, [("k", either, MUST), ("l", BEHIND_Y, ((), ("first", ("start",), 0, 1)))])
        yield Works(blind, four, [("k", BEHIND_X, MUST), ("l", BEHIND_X, MAY_NOT)])
        for seed in range(30):
            yield works_by(seed)

    def test_all_splits(self):
        kinds = set()
        for works in self.many_letters():
            if len(works) > 5:
                continue
            letters = works.letters
            done = {}
            for split in self.all_splits(letters):
                ledger = {letter: "pqrs"[at] for at, part in enumerate(split) for letter in part}
                done[split] = can_do_with(works, ledger)
                names = {letter: "abcd"[at] for at, part in enumerate(split) for letter in part}
                self.same(ledger_of(works, split), {letter: names[letter] for letter in sorted(letters)})
            if len(works) <= 3:
                for split in done:
                    ledger = ledger_of(works, split)
                    self.assertEqual(done[split], (0,) in Views(works, ledger).safe())
            coarser = {split: list(self.put_together(letters, split)) for split in done}
            coarsest = [split for split in done if done[split] and not any(done[other] for other in coarser[split])]
            finer = {split: [other for other in done if split in coarser[other]] for split in done}
            finest = [split for split in done if not done[split] and all(done[other] for other in finer[split])]
            self.same(coarsest_splits(works), sorted(coarsest))
            self.same(finest_gaps(works), sorted(finest))
            for split in done:
                self.assertTrue(done[split] or not any(done[other] for other in coarser[split]))
            kinds.add((len(letters), len(coarsest), len(finest)))
        self.assertTrue({(1, 1, 0), (1, 0, 1)} <= kinds, kinds)
        self.assertTrue(any(letters == 4 and one and other for letters, one, other in kinds), kinds)
        self.assertTrue(any(letters == 4 and one > 1 for letters, one, _ in kinds), kinds)

    def test_by_hand(self):
        self.same(coarsest_splits(WORKS), [(("x",), ("y", "other")), (("x", "other"), ("y",))])
        self.same(finest_gaps(WORKS), [(("x", "y"), ("other",))])
        self.same(ledger_of(WORKS, (("x", "other"), ("y",))), {"other": "a", "x": "a", "y": "b"})

    def test_wrong(self):
        for split in (
            *JUNK,
            (("x", "y", "other"), ()),
            (("x", "y"),),
            (("y", "x", "other"),),
            (("y",), ("x", "other")),
            (("x", "y", "other"), ("x",)),
            (("x", "x", "y", "other"),),
            (("x", "y"), ("other", "z")),
            [("x", "y", "other")],
            (["x", "y", "other"],),
            ("x", "y", "other"),
        ):
            self.refused(BadSplit, ledger_of, WORKS, split)
            self.refused(BadWorks, ledger_of, BLIND, split, part=None)


class Wrong(Case):
    def test_six_modes_and_seven(self):
        six = Works(EXACT, [], [("r", ("then", ("then", ANY, ANY), ("then", ANY, ("then", ANY, ANY))), MAY_NOT)])
        self.same(len(six), 7)
        five = Works(EXACT, [], [("r", ("then", ("then", ANY, ANY), ("then", ANY, ANY)), MAY_NOT)])
        self.same((len(five), can_do_with(five, {"other": "a"})), (6, True))
        for function, *args in (
            (view_left, None, None, None, 9, None),
            (course_to, None, None, None),
            (is_safe_view, None, None),
            (can_do_with, None),
            (wit, None),
            (is_wit, None, None),
            (blind_spot, None),
            (is_blind_spot, None, None),
            (ledger_of, None),
            (coarsest_splits,),
            (finest_gaps,),
        ):
            self.refused(TooMany, function, six, *args, most=6)
            self.refused(BadWorks, function, BLIND, *args, part=None)

    def test_ledgers(self):
        for ledger in (
            *JUNK,
            {"x": "p", "y": "p"},
            {**PLAIN, "z": "p"},
            {"x": "p", "y": "p", "z": "p"},
            {**PLAIN, "x": "other"},
            {**PLAIN, "x": "out"},
            {**PLAIN, "x": "start"},
            {**PLAIN, "x": "P"},
            {**PLAIN, "x": ""},
            {**PLAIN, "x": "longer7"},
            {**PLAIN, "x": 1},
            {**PLAIN, "x": None},
            list(PLAIN.items()),
        ):
            for function, *args in (
                (view_left, None, None, 9, None),
                (course_to, None, None),
                (is_safe_view, None),
                (can_do_with,),
                (wit,),
                (is_wit, None),
                (blind_spot,),
                (is_blind_spot, None),
            ):
                self.refused(BadLedger, function, WORKS, ledger, *args)

    def test_order(self):
        for view in (*JUNK[:13], [0], (1, 0), (0, 0), (0, 3), (-1,), (True,), (False, 1), (None,), ("0",), 0):
            self.refused(BadView, view_left, WORKS, PLAIN, view, None, 9, None)
            self.refused(BadView, is_safe_view, WORKS, PLAIN, view)
        for row in (None, 0, [0], (2,), (0, 0), (True,)):
            self.refused(BadRow, view_left, WORKS, PLAIN, (0,), row, 9, None)
        for moment in (True, -1, 2, "0"):
            self.refused(BadMoment, view_left, WORKS, PLAIN, (0,), (0,), moment, None)
        for name in (None, "r", "x", True, 0, [], "P"):
            self.refused(BadName, view_left, WORKS, PLAIN, (0,), (0,), 0, name)
        good = ((None,), 0, "p")
        for seen in (None, "x", {}, 1, [good] * 9):
            self.refused(BadSeen, course_to, WORKS, PLAIN, seen, None, at=None)
        for thing in (
            None,
            list(good),
            good[:2],
            (*good, 0),
            ((2,), 0, "p"),
            ([None], 0, "p"),
            ((True,), 0, "p"),
            ((None,), 2, "p"),
            ((None,), True, "p"),
            ((None,), 0, "r"),
            ((None,), 0, None),
        ):
            self.refused(BadSeen, course_to, WORKS, PLAIN, [good, thing, None], None, at=1)
        for mode in (None, True, -1, 3, "0"):
            self.refused(BadMode, course_to, WORKS, PLAIN, [good], mode)

    def test_wits(self):
        every = {"x": "p", "y": "q", "other": "r"}
        told = wit(WORKS, every)
        self.same(list(told), [(0,), (1,), (2,)])
        table = told[0,]
        for thing in (
            *JUNK,
            {view: worth for view, worth in told.items() if view != (0,)},
            {view: worth for view, worth in told.items() if view != (1,)},
            {**told, (0,): None},
            {**told, (0,): [table]},
            {**told, (0,): constant(1, 2, None)},
            {**told, (0,): constant(2, 1, None)},
            {**told, (3,): table},
            {**told, (1, 0): table},
            {**told, (): table},
            {**told, 0: table},
            {((False,) if view == (0,) else view): worth for view, worth in told.items()},
            {((True,) if view == (1,) else view): worth for view, worth in told.items()},
            list(told.items()),
        ):
            self.assertIs(is_wit(WORKS, every, thing), False)

    def test_all_wits_of_small_works(self):
        judged = set()
        for seed, works in some(6, most=2):
            views = Views(works, ledger_by(works, seed))
            tables = tables_of(works.panel.length)[::5]
            for chosen in subsets(views.every):
                for some_tables in itertools.product(tables, repeat=min(2, len(chosen))):
                    thing = dict(zip(chosen, some_tables * 2))
                    led = {view: views.led_to(view, table.answers()) for view, table in thing.items()}
                    wanted = (0,) in thing and all(views is not None and views <= set(thing) for views in led.values())
                    self.assertIs(is_wit(works, views.ledger, thing), wanted)
                    judged.add(wanted)
        self.assertEqual(judged, {True, False})

    def test_blind_spots(self):
        told = blind_spot(WORKS, MIXED)
        self.same([view for view in told if len(view) < 3], [(0,), (1, 2)])
        rank, strife = told[0,]
        arrivals, answers = strife
        self.same((rank, told[1, 2][0]), (2, 1))
        self.assertIs(is_blind_spot(WORKS, MIXED, {**told, (0,): (10**11, strife)}), True)
        calm = ((None,), (2,), 0)
        for pair in (
            strife,
            [rank, strife],
            (rank, strife, 0),
            (1, strife),
            (True, strife),
            (0, strife),
            (None, strife),
            (rank, list(strife)),
            (rank, None),
            (rank, (arrivals, {})),
            (rank, ((0, 0), answers)),
            (rank, (list(arrivals), answers)),
            (rank, (arrivals, {time: one for time, one in answers.items() if time != 1})),
            (rank, (arrivals, {**answers, 2: answers[None]})),
            (rank, (arrivals, {(True if time == 1 else time): one for time, one in answers.items()})),
            (rank, (arrivals, {**answers, 0: calm})),
            (rank, (arrivals, {**answers, 0: None})),
            (rank, (arrivals, {**answers, 0: list(answers[0])})),
        ):
            self.assertIs(is_blind_spot(WORKS, MIXED, {**told, (0,): pair}), False, pair)
        for thing in (
            *JUNK,
            {view: pair for view, pair in told.items() if view != (0,)},
            {view: pair for view, pair in told.items() if view != (1, 2)},
            {**told, (3,): told[0,]},
            {**told, (2, 1): told[0,]},
            {**told, (): told[0,]},
            {((False,) if view == (0,) else view): pair for view, pair in told.items()},
        ):
            self.assertIs(is_blind_spot(WORKS, MIXED, thing), False)
        self.assertIs(is_blind_spot(WORKS, {"x": "p", "y": "q", "other": "r"}, told), False)

    def test_arrivals_of_the_environment_itself(self):
        """The view left is told by the arrivals that came, which only look like those of the strife until its time."""
        panel = Panel(["b"], 1, {"b": (0, 1)}, 0)
        works = Works(panel, [("x", (("rings", "b"),))], [("must", BEHIND_X, MUST), ("not", BEHIND_OTHER, MAY_NOT)])
        ledger = {"x": "p", "other": "p"}
        views = Views(works, ledger)
        told = blind_spot(works, ledger)
        self.assertEqual(told is None, (0,) in views.safe())
        self.assertIs(is_wit(works, ledger, wit(works, ledger)) or is_blind_spot(works, ledger, told), True)


if __name__ == "__main__":
    unittest.main()
