"""Points 20 and 21: terms, conditions and cases."""

import itertools
import unittest

from roundpromises.errors import BadCases, BadCondition, BadNames, BadTimes
from roundpromises.terms import holds, is_cases, is_condition, letter_of, letters_of
from tests.helpers import Case, junk_but

NO_NAMES = (
    "",
    "abcdefg",
    "start",
    "other",
    "A",
    "a1",
    "a b",
    "a_",
    "aB",
    "\u00e9",
    "\u0430",
    "a\n",
    1,
    None,
    True,
    ["a"],
    ("a",),
)
BAD_LISTS = (
    None,
    "ab",
    {"a": 1},
    3,
    ["a", "a"],
    ("out", "out"),
    ["start"],
    ["other"],
    [1],
    ["A"],
    [["a"]],
    ["a", None],
    ["abcdefg"],
    [""],
)
BAD_CONDITIONS = (
    None,
    [],
    "",
    ("rings", "a"),
    [("rings", "a")],
    (("rings",),),
    (("rings", "a", "b"),),
    (["rings", "a"],),
    (("ring", "a"),),
    (("rings", "start"),),
    (("silent", "start"),),
    (("silent", "other"),),
    (("gap", "a", "a", 0),),
    (("gap", "start", "start", 0),),
    (("gap", "a", "b"),),
    (("gap", "a", "b", 9),),
    (("gap", "a", "b", -9),),
    (("gap", "a", "b", True),),
    (("gap", "a", "b", None),),
    (("gap", "a", "other", 1),),
    (("gap", "a", "b", 1, 1),),
    (("gap", "other", "a", 1),),
    (("gap", None, "a", 1),),
    (("fall", "a", "b", 1),),
    ((None, "a", "b", 1),),
    (("rings", "a", "b", 1),),
    (("rings", "a"),) * 5,
    ((),),
    (None,),
    ({},),
    {},
    7,
    True,
    (("rings", ["a"]),),
)


class Conditions(Case):
    def test_conditions(self):
        names = ["a", "b", "out", "rings", "abcdef"]
        for thing in (
            (),
            (("rings", "a"),),
            (("silent", "out"),),
            (("gap", "a", "out", 8),),
            (("gap", "b", "a", -8),),
            (("gap", "start", "a", 0),),
            (("gap", "out", "start", 3),),
            (("rings", "rings"),) * 4,
            (("rings", "abcdef"), ("silent", "a"), ("gap", "a", "b", 1), ("gap", "start", "out", 0)),
        ):
            self.assertIs(is_condition(thing, names), True, thing)
            self.assertIs(is_condition(thing, tuple(names)), True)
        for thing in BAD_CONDITIONS + tuple(junk_but(())):
            self.assertIs(is_condition(thing, names), False, thing)

    def test_names_not_among_names(self):
        self.assertIs(is_condition((("rings", "a"),), []), False)
        self.assertIs(is_condition((("rings", "out"),), ["a"]), False)
        self.assertIs(is_condition((("gap", "a", "b", 0),), ["a", "out"]), False)
        self.assertIs(is_condition((("gap", "start", "a", 0),), ["a"]), True)
        self.assertIs(is_condition((), []), True)
        self.assertIs(is_condition((("rings", "a"), ("rings", "c")), ["a", "b"]), False)

    def test_bad_names(self):
        for names in BAD_LISTS:
            self.refused(BadNames, is_condition, (), names)
            self.refused(BadNames, is_condition, "no condition", names)
            self.refused(BadNames, is_cases, [], names)
        for name in NO_NAMES:
            self.refused(BadNames, is_condition, (), [name])

    def test_holds(self):
        times = {"a": 3, "b": None, "c": 0, "out": 12}
        for condition, wanted in (
            ((), True),
            ((("rings", "a"),), True),
            ((("rings", "b"),), False),
            ((("silent", "b"),), True),
            ((("silent", "c"),), False),
            ((("rings", "c"),), True),
            ((("rings", "out"),), True),
            ((("gap", "c", "a", 3),), True),
            ((("gap", "c", "a", 4),), False),
            ((("gap", "a", "c", -3),), True),
            ((("gap", "a", "c", -2),), False),
            ((("gap", "a", "b", -8),), False),
            ((("gap", "b", "a", -8),), False),
            ((("gap", "start", "a", 3),), True),
            ((("gap", "start", "a", 4),), False),
            ((("gap", "a", "start", -3),), True),
            ((("gap", "a", "start", -2),), False),
            ((("gap", "start", "c", 0),), True),
            ((("gap", "start", "b", -8),), False),
            ((("gap", "a", "out", 8),), True),
            ((("rings", "a"), ("silent", "b"), ("rings", "b")), False),
            ((("rings", "a"), ("silent", "b"), ("gap", "c", "a", 0), ("rings", "c")), True),
        ):
            self.assertIs(holds(condition, times), wanted, condition)

    def test_gap_in_full(self):
        for one, other, k in itertools.product((None, 0, 1, 5, 12), (None, 0, 1, 5, 12), range(-8, 9)):
            wanted = one is not None and other is not None and other >= one + k
            self.assertIs(holds((("gap", "a", "b", k),), {"a": one, "b": other}), wanted)

    def test_holds_refuses(self):
        bad = tuple(thing for thing in BAD_CONDITIONS)
        for condition in bad:
            self.refused(BadCondition, holds, condition, {"a": 1}, name=None)
            self.refused(BadCondition, holds, condition, "no times", name=None)
        for times in (
            None,
            [],
            {"start": 0},
            {"other": 1},
            {"a": 13},
            {"a": -1},
            {"a": True},
            {"a": "1"},
            {1: 1},
            {"A": 1},
            {"a": 1, "b": []},
            (("a", 1),),
            {None: 1},
            {"abcdefg": 1},
            {("a",): 1},
        ):
            self.refused(BadTimes, holds, (), times)
            self.refused(BadTimes, holds, (("rings", "z"),), times)

    def test_first_missing_name(self):
        times = {"a": 1}
        self.refused(BadCondition, holds, (("rings", "b"), ("rings", "c")), times, name="b")
        self.refused(BadCondition, holds, (("rings", "a"), ("gap", "c", "b", 0)), times, name="c")
        self.refused(BadCondition, holds, (("gap", "start", "out", 0), ("rings", "b")), times, name="out")
        self.refused(BadCondition, holds, (("silent", "a"), ("rings", "b")), times, name="b")
        self.refused(BadCondition, holds, (("gap", "a", "b", 0),), times, name="b")
        self.assertIs(holds((("gap", "start", "a", 0),), times), True)
        self.assertIs(holds((), {}), True)


class Cases(Case):
    good = (
        [],
        (),
        [("a", ())],
        (("a", ()), ("b", (("rings", "x"),)), ("c", (("silent", "out"),))),
        [("rings", (("gap", "start", "x", 2),))],
        [("x", (("rings", "x"),))],
    )
    bad = (
        None,
        {},
        "a",
        1,
        [("a",)],
        [["a", ()]],
        [("other", ())],
        [("out", ())],
        [("start", ())],
        [("A", ())],
        [("a", ()), ("a", ())],
        [
            ("a", []),
        ],
        [("a", ()), ("b", ()), ("c", ()), ("d", ())],
        [("a", (), ())],
        [(1, ())],
        [(["a"], ())],
        [("a", (("rings", "start"),))],
        [None],
        [("a", None)],
        [()],
        (("a", ()), "b"),
        [("a", (("rings", "x"),) * 5)],
        True,
    )

    def test_is_cases(self):
        for thing in self.good:
            self.assertIs(is_cases(thing, ["x", "out"]), True, thing)
        for thing in self.bad:
            self.assertIs(is_cases(thing, ["x", "out"]), False, thing)
        self.assertIs(is_cases([("a", (("rings", "out"),))], ["x"]), False)
        self.assertIs(is_cases([("a", ()), ("b", (("rings", "y"),))], ("x", "out")), False)
        self.assertIs(is_cases([("a", ())], ()), True)

    def test_letters_of(self):
        self.same(letters_of([]), ("other",))
        self.same(letters_of([("z", ()), ("b", ()), ("m", (("rings", "q"),))]), ("z", "b", "m", "other"))
        self.same(letters_of((("z", ()),)), ("z", "other"))
        for thing in self.bad:
            self.refused(BadCases, letters_of, thing)

    def test_letter_of(self):
        cases = [("x", (("rings", "a"),)), ("y", (("gap", "a", "out", 0),)), ("z", (("silent", "out"),))]
        self.same(letter_of(cases, {"a": 0, "out": None}), "x")
        self.same(letter_of(cases, {"a": None, "out": None}), "z")
        self.same(letter_of(cases, {"a": None, "out": 3}), "other")
        self.same(letter_of(cases[1:], {"a": 3, "out": 3}), "y")
        self.same(letter_of(cases[1:], {"a": 4, "out": 3}), "other")
        self.same(letter_of([("x", ()), ("y", ())], {}), "x")
        self.same(letter_of([], {}), "other")

    def test_letter_of_refuses(self):
        for thing in self.bad:
            self.refused(BadCases, letter_of, thing, None)
        for times in (None, [], {"a": True}, {"start": 1}, {"a": 13}):
            self.refused(BadTimes, letter_of, [], times)
            self.refused(BadTimes, letter_of, [("x", (("rings", "q"),))], times)

    def test_letter_of_missing_names(self):
        cases = [("x", ()), ("y", (("rings", "a"), ("gap", "c", "b", 0))), ("z", (("rings", "d"),))]
        self.refused(BadCondition, letter_of, cases, {"a": 1, "b": 2, "d": 0}, name="c")
        self.refused(BadCondition, letter_of, cases, {"a": 1, "b": 2, "c": 0}, name="d")
        self.refused(BadCondition, letter_of, cases, {}, name="a")
        self.same(letter_of(cases, {"a": 1, "b": 2, "c": 0, "d": None}), "x")


if __name__ == "__main__":
    unittest.main()
