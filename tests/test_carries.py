"""Point 140: plays, and whether one works carries another."""

import itertools
import unittest

from roundpromises.carries import carries, escape, follower, is_play
from roundpromises.errors import BadPlay, BadWorks, OtherWorks, TooMany
from roundpromises.ever import good_modes, kept_task
from roundpromises.forms import ALWAYS
from roundpromises.machines import breaking, keeps_for_ever, led
from roundpromises.one import good, had
from roundpromises.sights import Panel, environments
from roundpromises.works import Works
from tests.calls_works import CASES, EXACT, LOST, SOON, STILL, WORKS
from tests.helpers import JUNK, Case, times_of
from tests.small import ANY, FORMS, Rounds, free_works, is_fine_round, works_by


def with_rules(works, seed):
    """A works with the panel and the cases of another one, and rules of its own; None if there is none such."""
    other = works_by(seed) if seed % 3 else free_works(seed)
    rules = other.rules if seed % 2 else works.rules[:1] + tuple(rule for rule in other.rules if rule[0] != "x")
    try:
        return Works(works.panel, works.cases, rules)
    except TooMany:
        return None


def couples(count):
    for seed in range(count):
        one = works_by(seed) if seed % 4 else free_works(seed)
        other = with_rules(one, seed * 5 + 7)
        if other is not None:
            yield one, other


class Kept:
    """What the Tables of those who keep a works for ever may answer: from all Tables, word by word."""

    def __init__(self, works):
        self.works = works
        self.rounds = Rounds(works)
        self.good = self.rounds.good()
        self.answered = {mode: self.all_answered(mode) for mode in range(len(works))}

    def all_answered(self, mode):
        """For each row of arrivals the times with which Tables that keep the kept Task answer."""
        found = {}
        for table in self.rounds.tables:
            letters = self.rounds.left_by(mode, table)
            if letters is not None and all(to in self.good for _, to in self.rounds.goes(mode, letters)):
                for row, time in table.answers().items():
                    found.setdefault(row, set()).add(time)
        return found

    def steps(self, mode):
        """All rounds that may come in a mode: triples, and the mode behind."""
        for environment in self.rounds.every:
            for time in self.answered[mode].get(self.rounds.arrivals[environment], ()):
                letter = self.rounds.letters[environment, time]
                yield (environment, time, letter), self.works.ways(mode)[letter]


def shortest_escape(kept, other):
    """How many rounds the shortest plays have whose last round breaks another works; None if there are none."""
    level, seen, rounds = {(0, 0)}, set(), 0
    while level:
        rounds += 1
        behind = set()
        for mode, other_mode in level:
            for (environment, time, letter), to in kept.steps(mode):
                if not is_fine_round(other, other_mode, environment, time):
                    return rounds
                behind.add((to, other.ways(other_mode)[letter]))
        seen |= level
        level = behind - seen
    return None


class Plays(Case):
    def test_all_rounds_of_short_plays(self):
        """All triples of all environments, times and letters, as the first and as the second round."""
        judged = []
        for seed in range(0, 60, 3):
            kept = Kept(works_by(seed, most_rules=2, lengths=(1, 2)) if seed % 2 else free_works(seed))
            works = kept.works
            starts = [([], 0)] + list(itertools.islice((([step], to) for step, to in kept.steps(0)), 0, None, 5))
            for play, mode in starts[:4]:
                self.assertIs(is_play(works, play), True)
                fits = [step for step, _ in kept.steps(mode)]
                for environment in kept.rounds.every:
                    for time, letter in itertools.product(times_of(works.panel.length), works.letters):
                        step = (environment, time, letter)
                        judged.append(step in fits)
                        self.assertIs(is_play(works, play + [step]), judged[-1])
        self.assertGreater(min(judged.count(True), judged.count(False)), 300)

    def test_the_only_play_where_mode_0_is_not_good(self):
        self.assertIs(is_play(LOST, []), True)
        self.assertIs(is_play(LOST, ()), True)
        for environment in environments(LOST.panel):
            for time, letter in itertools.product(times_of(2), LOST.letters):
                self.assertIs(is_play(LOST, [(environment, time, letter)]), False)

    def test_good_is_not_enough(self):
        """A time that is good, but with which no Table that keeps the Task answers."""
        panel = Panel(["b"], 2, {"b": (1, 1)}, 0)
        works = Works(panel, [], [("x", ALWAYS, ((), ("first", ("b",), 0, 1)))])
        task = kept_task(works, 0)
        self.same((good(task, (0,)), had(task, (0,))), ((0, 1, 2, None), (0, 1, 2, None)))
        found = 0
        for seed in range(200):
            kept = Kept(works_by(seed))
            for mode in kept.good:
                task = kept_task(kept.works, mode)
                for environment in kept.rounds.every:
                    row = kept.rounds.arrivals[environment]
                    for time in set(good(task, row)) - kept.answered[mode][row]:
                        found += mode == 0
                        if mode == 0:
                            letter = kept.rounds.letters[environment, time]
                            self.assertIs(is_play(kept.works, [(environment, time, letter)]), False)
        self.assertGreater(found, 0)

    def test_long_plays(self):
        environment = ((None,), (0,), 0)
        step = (environment, None, "other")
        self.assertIs(is_play(WORKS, [step] * 60), True)
        self.assertIs(is_play(WORKS, tuple([step] * 60)), True)
        rung = (((0,), (0,), 1), 1, "x")
        self.assertIs(is_play(WORKS, [step, rung] * 30), True)
        self.assertIs(is_play(WORKS, [step, rung] * 29 + [rung, (environment, 0, "y")]), False)

    def test_wrong(self):
        step = (((0,), (0,), 1), 1, "x")
        self.assertIs(is_play(WORKS, [step]), True)
        for thing in (
            *[thing for thing in JUNK if thing not in ([], ())],
            step,
            {0: step},
            [list(step)],
            [step[:2]],
            [step + (0,)],
            [step, None],
            [None, step],
            [([(0,), (0,), 1], 1, "x")],
            [(((0,), (0,), True), 1, "x")],
            [(((0,), (False,), 1), 1, "x")],
            [(((False,), (0,), 1), 1, "x")],
            [(((0,), (0,), 1), True, "x")],
            [(((0,), (0,), 1), 1, "y")],
            [(((0,), (0,), 1), 1, "other")],
            [(((0,), (0,), 1), 1, None)],
            [(((0,), (0,), 1), 1, ["x"])],
            [(((0,), (0,), 1), 3, "x")],
            [(((0,), (0,), 1), -1, "x")],
            [(((0,), (0,), 1), "1", "x")],
            [(((0,), (0,), 1), 0, "y")],
            [(((3,), (0,), 1), 1, "x")],
            [(((0,), (1,), 1), 1, "x")],
            [(((1, 1), (0, 0), 1), 1, "x")],
        ):
            self.assertIs(is_play(WORKS, thing), False, thing)
        self.refused(BadWorks, is_play, None, [], part=None)


class Carrying(Case):
    def test_against_all_plays(self):
        lengths = []
        for one, other in couples(150):
            kept = Kept(one)
            wanted = shortest_escape(kept, other)
            told = escape(one, other)
            self.assertIs(carries(one, other), wanted is None)
            self.same(None if told is None else len(told), wanted)
            lengths.append(wanted)
            if told is not None:
                self.judge(kept, other, told)
        self.assertTrue({None, 1, 2, 3} <= set(lengths))

    def judge(self, kept, other, told):
        """The escape is a play of the one, and its last round alone breaks a promise of the other."""
        self.assertIs(is_play(kept.works, told), True)
        mode = other_mode = 0
        for at, step in enumerate(told):
            environment, time, letter = step
            self.assertIn(step, [one for one, _ in kept.steps(mode)])
            fits = is_fine_round(other, other_mode, environment, time)
            self.assertIs(fits, at < len(told) - 1)
            mode, other_mode = kept.works.ways(mode)[letter], other.ways(other_mode)[letter]

    def test_every_works_carries_itself_and_fewer_rules(self):
        for one, other in couples(60):
            self.assertIs(carries(one, one), True)
            self.assertIsNone(escape(one, one))
            for name in one.names:
                self.assertIs(carries(one, one.without(name)), True)

    def test_two_that_carry_one_another_have_the_same_plays(self):
        tried = 0
        for one, other in couples(150):
            if carries(one, other) and carries(other, one):
                tried += 1
                self.assertEqual(self.plays(Kept(one), 2), self.plays(Kept(other), 2))
        self.assertGreater(tried, 5)

    def plays(self, kept, rounds):
        found, left = set(), [((), 0)]
        for _ in range(rounds):
            left = [(play + (step,), to) for play, mode in left for step, to in kept.steps(mode)]
            found |= {play for play, _ in left}
        return found

    def test_where_mode_0_of_one_is_not_good(self):
        for other in (LOST, Works(LOST.panel, CASES, []), Works(LOST.panel, CASES, [STILL])):
            self.assertIs(carries(LOST, other), True)
            self.assertIsNone(escape(LOST, other))
        free = Works(LOST.panel, CASES, [])
        self.assertIs(carries(free, LOST), False)
        self.same(len(escape(free, LOST)), 1)

    def test_by_hand(self):
        more = Works(EXACT, CASES, [SOON])
        self.assertIs(carries(WORKS, more), True)
        # Who need not be still behind y may ring at once, and once more in the round behind it.
        self.same(len(escape(more, WORKS)), 2)
        self.same(escape(more, WORKS)[0][2], "y")
        late = Works(EXACT, CASES, [("late", ("then", ("one", "x"), ("then", ANY, ANY)), ((), ("never",)))])
        self.same(len(escape(WORKS, late)), 4)

    def test_errors(self):
        for thing in JUNK:
            for function in (carries, escape):
                self.refused(BadWorks, function, thing, None, part=None)
                self.refused(BadWorks, function, WORKS, thing, part=None)
        for other in (LOST, Works(EXACT, CASES[:1], []), Works(EXACT, [], []), WORKS.with_panel(EXACT.with_slip(0))):
            for function in (carries, escape):
                self.refused(OtherWorks, function, WORKS, other)


class Following(Case):
    def test_follows_plays(self):
        tried = 0
        for seed in range(60):
            kept = Kept(works_by(seed) if seed % 3 else free_works(seed))
            if 0 in kept.good:
                for skip in (1, 2, 5):
                    tried += 1
                    self.follow(kept, self.play(kept, skip, seed % 9))
        self.assertGreater(tried, 50)

    def play(self, kept, skip, rounds):
        play, mode = [], 0
        for at in range(rounds):
            steps = list(kept.steps(mode))
            step, mode = steps[(at + 1) * skip * 7 % len(steps)]
            play.append(step)
        return play

    def follow(self, kept, play):
        machine = follower(kept.works, play)
        self.assertLessEqual(len(machine), 24)
        self.assertIs(keeps_for_ever(kept.works, machine), True)
        self.same(led(kept.works, machine, [environment for environment, _, _ in play]), play)
        self.assertTrue(follower(kept.works, tuple(play)) == machine)

    def test_follows_escapes(self):
        tried = 0
        for one, other in couples(150):
            told = escape(one, other)
            if told is not None:
                tried += 1
                machine = follower(one, told)
                self.assertIs(keeps_for_ever(one, machine), True)
                self.same(len(breaking(other, machine)), len(told))
        self.assertGreater(tried, 30)

    def test_sixteen_modes_and_eight_rounds(self):
        count = ANY
        for _ in range(4):
            count = ("then", count, count)
        works = Works(EXACT, [], [("r", ("many", count), ((("gap", "b", "start", 0),), ("first", ("b",), 0, 2)))])
        self.same((len(works), good_modes(works)), (16, tuple(range(16))))
        environment = ((None,), (0,), 0)
        for times in itertools.product((0, 2, None), repeat=3):
            times = times + (1, None, 2, 0, 1)
            play = [(environment, time, "other") for time in times]
            machine = follower(works, play)
            self.same(led(works, machine, [environment] * 8), play)
            self.assertIs(keeps_for_ever(works, machine), True)
            self.assertLessEqual(len(machine), 24)

    def test_the_empty_play(self):
        machine = follower(WORKS, [])
        self.assertIs(keeps_for_ever(WORKS, machine), True)
        self.same(led(WORKS, machine, []), [])
        self.assertIsNone(follower(LOST, []))
        self.assertIsNone(follower(LOST, ()))

    def test_bad_plays(self):
        step = (((None,), (0,), 0), None, "other")
        self.same(led(WORKS, follower(WORKS, [step] * 8), [step[0]] * 8), [step] * 8)
        for play in (
            *[thing for thing in JUNK if thing not in ([], ())],
            [step] * 9,
            (step,) * 9,
            step,
            [list(step)],
            [(((None,), (0,), 0), None, "y")],
            [(((0,), (0,), 0), 0, "y")],
            [(((0,), (0,), 1), True, "x")],
        ):
            self.refused(BadPlay, follower, WORKS, play)
            self.refused(BadPlay, follower, LOST, play)
        self.refused(BadWorks, follower, None, None, part=None)

    def test_three_inputs(self):
        panel = Panel(["p", "q", "r"], 8, None, 0)
        works = Works(panel, CASES_PQR, [("x", ALWAYS, ((), ("first", ("p", "q", "r"), 0, 1)))])
        strict = Works(panel, CASES_PQR, [("x", FORMS[3], ((), ("first", ("p", "q", "r"), 0, 0)))])
        told = escape(works, strict)
        self.same(len(told), 2)
        self.assertIs(is_play(works, told), True)
        self.same(led(works, follower(works, told), [environment for environment, _, _ in told]), told)


CASES_PQR = [("a", (("gap", "p", "out", 1),))]


if __name__ == "__main__":
    unittest.main()
