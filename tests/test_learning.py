"""Point 135: delays that stay the same, but are not known."""

import itertools
import unittest

from roundpromises.corners import with_delays
from roundpromises.errors import BadGuess, BadMode, BadRow, BadWorks, TooMany
from roundpromises.ever import good_modes
from roundpromises.forms import ALWAYS
from roundpromises.learning import (
    can_learn,
    first_guess,
    greatest_guesses,
    guess_left,
    is_lore,
    is_riddle,
    is_safe,
    least_guesses,
    lore,
    riddle,
)
from roundpromises.sights import Panel, arrivals_of, environments
from roundpromises.tables import constant
from roundpromises.works import Works
from tests.calls_works import EXACT, WORKS
from tests.helpers import JUNK, Case, all_tables, late, seen_until, times_of
from tests.small import BEHIND_A, FORMS, PROMISES, free_works, is_fine_round, letter_left, tables_of, works_by

CASES = [("a", (("rings", "out"),))]
# In the first round anything goes; behind it the delay must be known, so that the output rings with b.
LATER = ("not", ("empty",))
JUST = ((("gap", "b", "start", -1),), ("first", ("b",), 1, 1))
LEARNT = Works(
    Panel(["b"], 2, {"b": (0, 1)}, 0), [("a", (("rings", "b"),))], [("x", ("then", ("one", "a"), ALWAYS), JUST)]
)
NOT_LEARNT = Works(Panel(["b"], 2, {"b": (0, 1)}, 0), [("a", (("rings", "b"),))], [("x", LATER, JUST)])


def works_with_delays(seed, length=1):
    """Small works with b late by 0 to 1 or 2."""
    least, greatest = ((0, 1), (0, 2), (1, 2))[seed % 3]
    works = works_by(seed, most_rules=2, lengths=(length,))
    return works.with_panel(Panel(["b"], length, {"b": (least, greatest)}, works.panel.slip))


def subsets(items):
    for many in range(1, len(items) + 1):
        yield from itertools.combinations(items, many)


class Places:
    """All places of a works, and for each what Tables need: the sets of places to which they may lead."""

    def __init__(self, works):
        self.works = works
        self.first = tuple(sorted({delays for _, delays, _ in environments(works.panel)}))
        self.every = [(mode, guess) for mode in range(len(works)) for guess in subsets(self.first)]
        self.environments = environments(works.panel)
        self.arrivals = {environment: arrivals_of(works.panel, environment) for environment in self.environments}
        self.letters = {}
        for mode, environment in itertools.product(range(len(works)), self.environments):
            for time in times_of(works.panel.length):
                fits = is_fine_round(works, mode, environment, time)
                self.letters[mode, environment, time] = letter_left(works, environment, time) if fits else None
        self.lefts = {}
        for guess, environment in itertools.product(subsets(self.first), self.environments):
            self.lefts[guess, environment] = tuple(
                delays
                for delays in guess
                if arrivals_of(works.panel, (environment[0], delays, 0)) == self.arrivals[environment]
            )
        self.tables = [table.answers() for table in tables_of(works.panel.length, len(works.panel.inputs))]
        self.options = {place: self.all_options(place) for place in self.every}

    def led_to(self, place, answers):
        """The places to which the answers of a Table may lead; None if they may break a promise."""
        mode, guess = place
        found = set()
        for environment in self.environments:
            if environment[1] in guess:
                letter = self.letters[mode, environment, answers[self.arrivals[environment]]]
                if letter is None:
                    return None
                found.add((self.works.ways(mode)[letter], self.lefts[guess, environment]))
        return frozenset(found)

    def all_options(self, place):
        found = {self.led_to(place, answers) for answers in self.tables} - {None}
        return [places for places in found if not any(other < places for other in found)]

    def safe_in(self, places):
        return all(any(option <= places for option in self.options[place]) for place in places)

    def safe(self):
        """The greatest set of places for each of which there is a fit Table."""
        places, left = set(self.every), None
        while left != places:
            left = places
            places = {place for place in left if any(option <= left for option in self.options[place])}
        return places


class Safe(Case):
    def test_all_sets_of_places(self):
        """On the smallest works: the union of all sets of places for which each of them has a fit Table."""
        tried = 0
        for seed in range(60):
            works = works_with_delays(seed)
            places = Places(works)
            if len(places.every) <= 9:
                tried += 1
                safe = set()
                for some in subsets(places.every):
                    if not set(some) <= safe and places.safe_in(set(some)):
                        safe |= set(some)
                self.assertEqual(safe, places.safe())
        self.assertGreater(tried, 20)

    def some(self):
        for seed in range(60):
            works = works_with_delays(seed, 1 + seed % 2)
            if len(works) <= 5:
                yield works
        yield LEARNT
        yield NOT_LEARNT

    def test_is_safe(self):
        found = []
        for works in self.some():
            places = Places(works)
            safe = places.safe()
            self.same(first_guess(works), places.first)
            self.assertIs(can_learn(works), (0, places.first) in safe)
            for mode, guess in places.every:
                told = is_safe(works, mode, guess)
                self.assertIs(told, (mode, guess) in safe)
                found.append(told)
                if len(guess) == 1:
                    self.assertEqual(told, mode in good_modes(with_delays(works, guess[0])))
                if mode in good_modes(works):
                    self.assertTrue(told)
                for less in subsets(guess):
                    self.assertTrue(is_safe(works, mode, less) or not told)
            self.judge_guesses(works, [guess for mode, guess in places.every if mode == 0], safe)
        self.assertTrue(100 < sum(found) < len(found) - 100)

    def judge_guesses(self, works, guesses, safe):
        done = {guess: (0, guess) in safe for guess in guesses}
        greatest = [
            guess for guess in done if done[guess] and not any(done[more] for more in done if set(guess) < set(more))
        ]
        least = [
            guess for guess in done if not done[guess] and all(done[less] for less in done if set(less) < set(guess))
        ]
        self.same(greatest_guesses(works), sorted(greatest))
        self.same(least_guesses(works), sorted(least))

    def test_lores_and_riddles(self):
        lores = riddles = 0
        for works in self.some():
            places = Places(works)
            told, asked = lore(works), riddle(works)
            self.assertIs(told is None, not can_learn(works))
            self.assertIs(asked is None, can_learn(works))
            if told is not None:
                lores += 1
                self.assertIs(is_lore(works, told), True)
                self.assertEqual(list(told), sorted(told))
                for place, table in told.items():
                    self.assertTrue(places.led_to(place, table.answers()) <= set(told))
            else:
                riddles += 1
                self.assertIs(is_riddle(works, asked), True)
                self.assertEqual(list(asked), sorted(asked))
                self.lead(works, asked, (0, places.first), [])
        self.assertGreater(min(lores, riddles), 15)

    def lead(self, works, told, place, course):
        """Whatever is answered: a promise is broken within the rank, with the arrivals of the last delays."""
        rank, (arrivals, answers) = told[place]
        self.assertLessEqual(len(course) + rank, told[0, first_guess(works)][0])
        for time in times_of(works.panel.length):
            environment = answers[time]
            heard = arrivals_of(works.panel, environment)
            self.assertEqual(seen_until(heard, time), seen_until(arrivals, time))
            past = course + [environment]
            if is_fine_round(works, place[0], environment, time):
                to = works.ways(place[0])[letter_left(works, environment, time)]
                left = guess_left(works, place[1], environment[0], heard)
                self.assertLess(told[to, left][0], rank)
                self.lead(works, told, (to, left), past)
            else:
                for row, delays, _ in past:
                    one = arrivals_of(works.panel, (row, environment[1], 0))
                    self.assertEqual(one, arrivals_of(works.panel, (row, delays, 0)))

    def test_by_hand(self):
        self.same((can_learn(LEARNT), can_learn(NOT_LEARNT)), (True, False))
        self.same(first_guess(LEARNT), ((0,), (1,)))
        self.same(greatest_guesses(LEARNT), [((0,), (1,))])
        self.same(least_guesses(LEARNT), [])
        self.same(greatest_guesses(NOT_LEARNT), [((0,),), ((1,),)])
        self.same(least_guesses(NOT_LEARNT), [((0,), (1,))])
        self.same(good_modes(LEARNT), (2,))

    def test_two_inputs(self):
        tables = all_tables(2, 1)
        self.assertGreater(len(tables), 20)
        for seed in range(8):
            rules = [("x", FORMS[seed], ((), ("last", ("a", "b"), 0, seed % 2))), ("y", BEHIND_A, PROMISES[seed])]
            works = Works(Panel(["a", "b"], 1, {"a": (0, 1), "b": (1, 2)}, 0), CASES, rules)
            if len(works) <= 3:
                places = Places(works)
                safe = places.safe()
                for mode, guess in places.every:
                    self.assertIs(is_safe(works, mode, guess), (mode, guess) in safe)
                self.judge_guesses(works, [guess for mode, guess in places.every if mode == 0], safe)


class Left(Case):
    def test_guess_left(self):
        for works in (works_with_delays(1), works_with_delays(2, 2), LEARNT):
            times = times_of(works.panel.length)
            for guess in subsets(first_guess(works)):
                for time, heard in itertools.product(times, repeat=2):
                    wanted = tuple(
                        delays
                        for delays in guess
                        if heard == (time + delays[0] if late(time) + delays[0] <= works.panel.length else None)
                    )
                    self.same(guess_left(works, guess, (time,), (heard,)), wanted)

    def test_rows_and_slips_change(self):
        works = Works(Panel(["b"], 3, {"b": (0, 2)}, 2), [], [])
        every = ((0,), (1,), (2,))
        self.same(guess_left(works, every, (None,), (None,)), every)
        self.same(guess_left(works, every, (3,), (None,)), ((1,), (2,)))
        self.same(guess_left(works, every, (1,), (3,)), ((2,),))
        self.same(guess_left(works, every, (1,), (0,)), ())
        self.same(guess_left(works, ((0,), (2,)), (1,), (2,)), ())


class Many(Case):
    def test_sixteen_delays_and_more(self):
        rule = ("x", LATER, ((), ("first", ("a",), 0, 3)))
        panel = Panel(["a", "b"], 3, {"a": (0, 3), "b": (0, 3)}, 0)
        works = Works(panel, [], [rule])
        self.same(len(first_guess(works)), 16)
        self.same(first_guess(works), tuple(itertools.product(range(4), repeat=2)))
        self.assertIs(
            can_learn(works), can_learn(works.with_panel(Panel(["a", "b"], 3, {"a": (0, 3), "b": (1, 1)}, 0)))
        )
        self.assertIs(is_lore(works, lore(works)) or is_riddle(works, riddle(works)), True)
        more = works.with_panel(Panel(["a", "b"], 3, {"a": (0, 3), "b": (0, 4)}, 0))
        for function, *args in (
            (first_guess,),
            (guess_left, None, None, None),
            (is_safe, None, None),
            (can_learn,),
            (lore,),
            (is_lore, None),
            (riddle,),
            (is_riddle, None),
            (greatest_guesses,),
            (least_guesses,),
        ):
            self.refused(TooMany, function, more, *args, most=16)
            self.refused(BadWorks, function, EXACT, *args, part=None)
        for function in (greatest_guesses, least_guesses):
            self.refused(TooMany, function, works, most=6)

    def test_six_delays_and_seven(self):
        rule = ("x", LATER, ((("gap", "b", "start", -3),), ("first", ("b",), 2, 3)))
        works = Works(Panel(["b"], 8, {"b": (0, 5)}, 0), [("a", (("rings", "b"),))], [rule])
        greatest, least = greatest_guesses(works), least_guesses(works)
        self.assertEqual(greatest, sorted(greatest))
        self.assertTrue(greatest and least)
        for guess in subsets(first_guess(works)):
            self.assertEqual(any(set(guess) <= set(more) for more in greatest), is_safe(works, 0, guess))
            self.assertEqual(not any(set(less) <= set(guess) for less in least), is_safe(works, 0, guess))
        seven = works.with_panel(Panel(["b"], 8, {"b": (0, 6)}, 0))
        for function in (greatest_guesses, least_guesses):
            self.refused(TooMany, function, seven, most=6)


class Wrong(Case):
    def test_guesses(self):
        for guess in (
            *JUNK,
            [(0,), (1,)],
            ((1,), (0,)),
            ((0,), (0,)),
            ((2,),),
            ((-1,),),
            (0, 1),
            ([0],),
            ((0, 0),),
            ((True,),),
            ((False,), (1,)),
            ((None,),),
        ):
            self.refused(BadGuess, guess_left, LEARNT, guess, None, None)
            self.refused(BadGuess, is_safe, LEARNT, 0, guess)
        for mode in (None, True, -1, 9, "0"):
            self.refused(BadMode, is_safe, LEARNT, mode, None)
        for row in (None, 0, [0], (3,), (0, 0), (True,), ("0",)):
            self.refused(BadRow, guess_left, LEARNT, ((0,),), row, (0,))
            self.refused(BadRow, guess_left, LEARNT, ((0,),), (0,), row)

    def test_lores(self):
        told = lore(LEARNT)
        first = (0, ((0,), (1,)))
        table = told[first]
        self.assertIs(is_lore(LEARNT, told), True)
        for thing in (
            *JUNK,
            {place: worth for place, worth in told.items() if place != first},
            {first: table},
            {**told, first: None},
            {**told, first: [table]},
            {**told, first: constant(1, 3, None)},
            {**told, first: constant(2, 2, None)},
            {**told, (9, ((0,),)): table},
            {**told, (0, ()): table},
            {**told, (0, ((2,),)): table},
            {**told, (0, ((1,), (0,))): table},
            {**told, 0: table},
            {**told, (0,): table},
            {((False, place[1]) if place == first else place): worth for place, worth in told.items()},
            {((0, ((False,), (1,))) if place == first else place): worth for place, worth in told.items()},
            list(told.items()),
        ):
            self.assertIs(is_lore(LEARNT, thing), False)
        judged = set()
        places = Places(LEARNT)
        for place in told:
            for other in tables_of(2)[::7]:
                led = places.led_to(place, other.answers())
                wanted = led is not None and led <= set(told)
                self.assertIs(is_lore(LEARNT, {**told, place: other}), wanted)
                judged.add(wanted)
        self.assertEqual(judged, {True, False})

    def test_riddles(self):
        told = riddle(NOT_LEARNT)
        first = (0, ((0,), (1,)))
        rank, strife = told[first]
        arrivals, answers = strife
        self.same(rank, 2)
        self.assertIs(is_riddle(NOT_LEARNT, told), True)
        self.assertIs(is_riddle(NOT_LEARNT, {**told, first: (10**11, strife)}), True)
        wrong = ((0,), (2,), 0)
        for pair in (
            strife,
            [rank, strife],
            (rank, strife, 0),
            (1, strife),
            (True, strife),
            (0, strife),
            (None, strife),
            (rank, list(strife)),
            (rank, None),
            (rank, (arrivals, {})),
            (rank, ((0, 0), answers)),
            (rank, (list(arrivals), answers)),
            (rank, (arrivals, {time: one for time, one in answers.items() if time != 1})),
            (rank, (arrivals, {**answers, 3: answers[None]})),
            (rank, (arrivals, {(True if time == 1 else time): one for time, one in answers.items()})),
            (rank, (arrivals, {**answers, 0: wrong})),
            (rank, (arrivals, {**answers, 0: None})),
            (rank, (arrivals, {**answers, 0: list(answers[0])})),
        ):
            self.assertIs(is_riddle(NOT_LEARNT, {**told, first: pair}), False, pair)
        for thing in (
            *JUNK,
            {first: told[first]},
            {place: pair for place, pair in told.items() if place != first},
            {**told, (9, ((0,),)): told[first]},
            {**told, (0, ((1,), (0,))): told[first]},
            {**told, 0: told[first]},
            {((False, place[1]) if place == first else place): pair for place, pair in told.items()},
        ):
            self.assertIs(is_riddle(NOT_LEARNT, thing), False)
        self.assertIs(is_riddle(LEARNT, told), False)

    def test_the_delays_of_the_guess_only(self):
        """An environment with delays of the panel that the place's guess does not have is none for its strife."""
        panel = Panel(["b"], 2, {"b": (0, 1)}, 0)
        works = Works(panel, [], [("x", ALWAYS, ((), ("first", ("b",), 0, 0)))])
        told = riddle(works)
        self.same(list(told), [(0, ((0,), (1,))), (0, ((1,),))])
        first = (0, ((0,), (1,)))
        pair = told[first]
        narrow = (0, ((0,),))
        self.assertIs(is_riddle(works, {**told, narrow: pair}), False)
        self.assertIs(is_riddle(works, {first: pair}), True)

    def test_free_works_of_one_delay(self):
        for seed in range(20):
            works = free_works(seed)
            self.assertIs(can_learn(works), 0 in good_modes(works))
        self.assertIs(can_learn(WORKS), True)


if __name__ == "__main__":
    unittest.main()
