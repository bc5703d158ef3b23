"""Points 80 and 81: works, their modes, and whether two allow the same behind every word."""

import itertools
import unittest

from roundpromises.errors import BadBarred, BadMode, BadName, BadWord, BadWorks, OtherWorks, TooMany
from roundpromises.forms import ALWAYS, matches
from roundpromises.one import Task, is_right
from roundpromises.promises import is_stronger
from roundpromises.sights import Panel
from roundpromises.works import Works, parting_letters, same_plays, task_of
from tests.helpers import JUNK, Case
from tests.small import ANY, BEFORE_LAST_A, BEHIND_A, FORMS, works_by

PANEL = Panel(["b"], 2, None, 0)
CASES = [("a", (("rings", "out"),))]
PROMISE = ((), ("first", ("b",), 0, 1))
NEVER = ((), ("never",))


def many_any(count):
    """The form of so many letters, as low as can be."""
    if count == 1:
        return ANY
    return ("then", many_any(count // 2), many_any(count - count // 2))


def words(letters, longest):
    for many in range(longest + 1):
        yield from itertools.product(letters, repeat=many)


class Making(Case):
    def test_example(self):
        form = ("then", ("many", ("any",)), ("then", ("one", "a"), ("any",)))
        alike = ("both", ("then", ("any",), ALWAYS), ("then", ALWAYS, ("then", ("one", "a"), ("any",))))
        for told in (form, ("not", ("not", form)), ("either", form, form), alike):
            works = Works(PANEL, CASES, [("r", told, PROMISE)])
            self.same(len(works), 4)
            self.same([works.word_to(mode) for mode in range(4)], [(), ("a",), ("a", "a"), ("a", "other")])
            self.same([works.active(mode) for mode in range(4)], [(), (), ("r",), ("r",)])
            self.same(
                [works.ways(mode) for mode in range(4)],
                [{"a": 1, "other": 0}, {"a": 2, "other": 3}, {"a": 2, "other": 3}, {"a": 1, "other": 0}],
            )

    def test_attributes(self):
        cases = [("z", (("rings", "out"),)), ("c", (("rings", "b"),))]
        rules = [("y", ALWAYS, PROMISE), ("x", BEHIND_Z, NEVER)]
        works = Works(PANEL, cases, rules)
        self.assertTrue(works.panel == PANEL)
        self.same((works.cases, works.rules, works.names), (tuple(cases), tuple(rules), ("y", "x")))
        self.same(works.letters, ("z", "c", "other"))
        self.same(works.active(1), ("y", "x"))
        self.same(list(works.ways(0)), ["c", "other", "z"])

    def test_without_rules(self):
        works = Works(PANEL, [], [])
        self.same((len(works), works.active(0), works.ways(0), works.word_to(0)), (1, (), {"other": 0}, ()))
        self.same(works.mode_behind(("other",) * 40), 0)
        self.assertIsNone(parting_letters(works, Works(PANEL, (), ())))

    def test_six_rules(self):
        rules = [(name, form, PROMISE) for name, form in zip("uvwxyz", FORMS)]
        works = Works(PANEL, CASES, rules)
        self.same(works.names, tuple("uvwxyz"))
        self.refused(BadWorks, Works, PANEL, CASES, [*rules, ("t", ALWAYS, PROMISE)], part="rules")
        self.refused(BadWorks, works.with_rule, ("t", ALWAYS, PROMISE), part="rules")

    def test_sixteen_modes_and_seventeen(self):
        round_of_16 = ("many", many_any(16))
        works = Works(PANEL, [], [("r", round_of_16, PROMISE)])
        self.same(len(works), 16)
        self.same(works.word_to(15), ("other",) * 15)
        self.same(works.mode_behind(("other",) * 17), 1)
        self.refused(TooMany, Works, PANEL, [], [("r", round_of_16, PROMISE), ("s", ("empty",), PROMISE)], most=16)
        self.refused(TooMany, works.with_rule, ("s", ("empty",), PROMISE), most=16)

    def test_two_thousand_environments_and_more(self):
        panel = Panel(["a", "b"], 8, {"a": (0, 9), "b": (0, 1)}, 0)
        self.same(len(Works(panel, [], [])), 1)
        self.refused(TooMany, Works, panel.with_slip(1), [], [], most=2000)
        self.refused(TooMany, Works(panel, [], []).with_panel, panel.with_slip(1), most=2000)

    def test_order_of_errors(self):
        many = Panel(["a", "b"], 8, {"a": (0, 9), "b": (0, 1)}, 1)
        rules = [("r", ("many", many_any(16)), NEVER), ("s", ("empty",), NEVER)]
        self.refused(BadWorks, Works, None, None, None, part="panel")
        self.refused(BadWorks, Works, many, None, None, part="cases")
        self.refused(BadWorks, Works, many, [], None, part="rules")
        self.refused(TooMany, Works, many, [], rules, most=2000)
        self.refused(TooMany, Works, PANEL, [], rules, most=16)

    def test_wrong_cases(self):
        for cases in (
            [("a", (("rings", "c"),))],
            [("other", ())],
            [("a", ()), ("a", ())],
            [("a", (("gap", "b", "out", True),))],
            "a",
            {},
        ):
            self.refused(BadWorks, Works, PANEL, cases, [], part="cases")

    def test_wrong_rules(self):
        good = ("r", ALWAYS, PROMISE)
        high = many_any(33)
        for rules in (
            None,
            {"r": good},
            "r",
            good,
            [list(good)],
            [good[:2]],
            [("out", ALWAYS, PROMISE)],
            [("other", ALWAYS, PROMISE)],
            [("R", ALWAYS, PROMISE)],
            [(1, ALWAYS, PROMISE)],
            [good, ("r", ANY, NEVER)],
            [("r", ("one", "c"), PROMISE)],
            [("r", ["any"], PROMISE)],
            [("r", high, PROMISE)],
            [("r", ALWAYS, list(PROMISE))],
            [("r", ALWAYS, ((), ("first", ("c",), 0, 1)))],
            [("r", ALWAYS, ((("rings", "out"),), ("never",)))],
            [("r", ALWAYS, ((), ("first", ("b",), False, 1)))],
        ):
            self.refused(BadWorks, Works, PANEL, CASES, rules, part="rules")
        self.same(len(Works(PANEL, CASES, [("r", many_any(5), PROMISE)])), 7)

    def test_methods_that_make_works(self):
        rule, other = ("r", ALWAYS, PROMISE), ("s", BEHIND_A, NEVER)
        works = Works(PANEL, CASES, [rule])
        self.assertTrue(works.with_rule(other) == Works(PANEL, CASES, (rule, other)))
        self.assertTrue(works.with_rule(other).without("r") == Works(PANEL, CASES, [other]))
        self.assertTrue(works.without("r") == Works(PANEL, CASES, []))
        wide = Panel(["b"], 2, {"b": (0, 1)}, 1)
        self.assertTrue(works.with_panel(wide) == Works(wide, CASES, [rule]))
        self.same(len(works), 1)
        for junk in JUNK[:-1]:
            self.refused(BadWorks, works.with_panel, junk, part="panel")
            self.refused(BadWorks, works.with_rule, junk, part="rules")
            self.refused(BadName, works.without, junk)
        self.refused(BadWorks, works.with_rule, ("r", ANY, NEVER), part="rules")
        self.refused(BadWorks, works.with_panel, Panel(["c"], 2, None, 0), part="rules")
        other_inputs = Works(PANEL, [("a", (("rings", "b"),))], [])
        self.refused(BadWorks, other_inputs.with_panel, Panel(["c"], 2, None, 0), part="cases")

    def test_equal(self):
        rule, other = ("r", ALWAYS, PROMISE), ("s", BEHIND_A, NEVER)
        works = Works(PANEL, CASES, [rule, other])
        self.assertTrue(works == Works(PANEL, tuple(CASES), (rule, other)))
        for unlike in (
            Works(PANEL.with_slip(1), CASES, [rule, other]),
            Works(PANEL, [*CASES, ("c", ())], [rule, other]),
            Works(PANEL, CASES, [other, rule]),
            Works(PANEL, CASES, [rule]),
        ):
            self.assertFalse(works == unlike)
            self.assertTrue(works != unlike)


BEHIND_Z = ("then", ALWAYS, ("one", "z"))


class Modes(Case):
    def some(self):
        for seed in range(60):
            yield works_by(seed)

    def active_behind(self, works, word):
        return tuple(name for name, form, _ in works.rules if matches(form, word))

    def test_active(self):
        for works in self.some():
            for word in words(works.letters, 4):
                self.same(works.active(works.mode_behind(word)), self.active_behind(works, word))

    def test_two_words_are_of_one_mode_if_all_that_follows_is_active_alike(self):
        tried = 0
        for works in list(self.some())[::3]:
            futures = {}
            for word in words(works.letters, 3):
                told = tuple(self.active_behind(works, word + more) for more in words(works.letters, 3))
                futures.setdefault(told, set()).add(works.mode_behind(word))
            for found in futures.values():
                self.assertEqual(len(found), 1)
            self.assertEqual(len({mode for found in futures.values() for mode in found}), len(futures))
            tried += len(futures)
        self.assertGreater(tried, 40)

    def test_numbers_by_the_shortest_words(self):
        for works in self.some():
            first = {}
            for word in words(works.letters, 5):
                first.setdefault(works.mode_behind(word), word)
            self.assertEqual(list(first), list(range(len(works)))[: len(first)])
            for mode, word in first.items():
                self.same(works.word_to(mode), word)

    def test_ways(self):
        for works in self.some():
            for mode in range(len(works)):
                word = works.word_to(mode)
                self.same(works.mode_behind(word), mode)
                wanted = {letter: works.mode_behind(word + (letter,)) for letter in sorted(works.letters)}
                self.same(works.ways(mode), wanted)

    def test_words_that_no_rounds_bring_count(self):
        nothing = Works(PANEL, [("a", (("rings", "b"), ("silent", "b")))], [("r", BEFORE_LAST_A, PROMISE)])
        self.same(len(nothing), 4)

    def test_order_of_letters_is_that_of_the_cases(self):
        cases = [("z", (("rings", "out"),)), ("c", (("rings", "b"),))]
        rules = [("r", ("one", "c"), NEVER), ("s", ("one", "z"), NEVER)]
        works = Works(PANEL, cases, rules)
        self.same([works.word_to(mode) for mode in range(4)], [(), ("z",), ("c",), ("other",)])

    def test_wrong(self):
        works = Works(PANEL, CASES, [("r", BEHIND_A, PROMISE)])
        self.same(len(works), 2)
        for mode in (None, True, False, -1, 2, "0", (), 10**11):
            for function in (works.active, works.ways, works.word_to):
                self.refused(BadMode, function, mode)
            self.refused(BadMode, task_of, works, mode, [])
        for word in (None, "a", ["a"], ("b",), (1,), ("a", None), (True,), {}):
            self.refused(BadWord, works.mode_behind, word)


class Tasks(Case):
    def test_task_of(self):
        rules = [("r", BEHIND_A, NEVER), ("s", ALWAYS, PROMISE), ("t", ("not", BEHIND_A), NEVER)]
        works = Works(PANEL, CASES, rules)
        self.assertTrue(task_of(works, 0, []) == Task(PANEL, CASES, [PROMISE, NEVER], []))
        self.assertTrue(task_of(works, 1, ("other", "a")) == Task(PANEL, CASES, [NEVER, PROMISE], ["a", "other"]))
        self.same(task_of(works, 1, []).promises, (NEVER, PROMISE))
        self.same(task_of(works, 0, ["other", "a"]).barred, ("a", "other"))

    def test_wrong(self):
        works = Works(PANEL, CASES, [])
        for barred in (None, "a", {"a": 1}, ["b"], ["a", "a"], [True], [["a"]], 1):
            self.refused(BadBarred, task_of, works, 0, barred)
        self.refused(BadMode, task_of, works, 1, ["b"])
        self.refused(BadWorks, task_of, PANEL, 1, ["b"], part=None)


class Same(Case):
    def test_behind_every_word(self):
        found = []
        for seed in range(60):
            one = works_by(seed)
            rules = works_by(seed + 1000).rules
            try:
                other = Works(one.panel, one.cases, rules)
            except (BadWorks, TooMany):
                continue
            for both in ((one, other), (other, one)):
                wanted = self.first_word(*both)
                if wanted is not None or len(one) * len(other) < 9:
                    self.same(parting_letters(*both), wanted)
                    self.assertIs(same_plays(*both), wanted is None)
                    found.append(wanted)
            self.assertTrue(same_plays(one, one))
        self.assertGreater(len({word for word in found if word}), 1)

    def first_word(self, one, other):
        inputs, length = one.panel.inputs, one.panel.length
        for word in words(one.letters, 4):
            lists = [[promise for _, form, promise in works.rules if matches(form, word)] for works in (one, other)]
            if not all(is_stronger(*pair, inputs, length) for pair in (lists, lists[::-1])):
                return word
        return None

    def test_behind_words_that_no_rounds_bring(self):
        cases = [("a", (("rings", "b"), ("silent", "b")))]
        one = Works(PANEL, cases, [("r", ("then", ("one", "a"), ("one", "a")), NEVER)])
        self.same(parting_letters(one, Works(PANEL, cases, [])), ("a", "a"))

    def test_rules_that_ask_the_same_in_other_words(self):
        one = Works(PANEL, CASES, [("r", BEHIND_A, ((), ("first", ("start",), 1, 2)))])
        rules = [
            ("u", BEHIND_A, ((), ("last", ("start",), 0, 2))),
            ("w", ("both", BEHIND_A, ("not", ANY)), ((), ("latest", ("start",), 1, 2))),
        ]
        other = Works(PANEL, CASES, rules)
        self.same(parting_letters(one, other), ("a",))
        more = other.with_rule(("v", ("both", BEHIND_A, ANY), ((), ("first", ("start",), 1, 4))))
        self.assertIsNone(parting_letters(one, more))
        self.assertIs(same_plays(more, one), True)

    def test_only_ringings_up_to_two_behind_the_end_count(self):
        def asking(low, high):
            return Works(PANEL, CASES, [("r", ALWAYS, ((), ("first", ("start",), low, high)))])

        for high in range(8):
            # Both allow the same but for the ringing at high.
            wanted = () if high <= PANEL.length + 2 else None
            self.same(parting_letters(asking(0, high), asking(0, high - 1) if high else asking(1, 8)), wanted)
            self.same(parting_letters(asking(0, 8), asking(1, 8)), ())
        silent = Works(PANEL, CASES, [("r", ALWAYS, ((), ("first", ("start",), 0, 8)))])
        self.same(parting_letters(Works(PANEL, CASES, []), silent), ())

    def test_wrong(self):
        works = Works(PANEL, CASES, [])
        for function in (same_plays, parting_letters):
            self.refused(BadWorks, function, None, None, part=None)
            self.refused(BadWorks, function, works, PANEL, part=None)
            self.refused(OtherWorks, function, works, Works(PANEL.with_slip(1), CASES, []))
            self.refused(OtherWorks, function, works, Works(PANEL, [], []))

    def test_allowed_as_the_task_tells(self):
        works = Works(PANEL, CASES, [("r", BEHIND_A, PROMISE)])
        self.assertIs(is_right(task_of(works, 1, []), ((0,), (0,), 0), 2), False)
        self.assertIs(is_right(task_of(works, 0, []), ((0,), (0,), 0), 2), True)


if __name__ == "__main__":
    unittest.main()
