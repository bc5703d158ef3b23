"""Points 2 to 5: what holds of all modules."""

import copy
import itertools
import unittest

from roundpromises.errors import PromiseError
from roundpromises.forms import ALWAYS, are_alike, form_behind, is_form, matches, parting_word
from roundpromises.one import (
    Task,
    against,
    earliest,
    good,
    had,
    is_quarrel,
    is_right,
    keeps,
    latest,
    on_top,
    quarrel,
    tightest,
)
from roundpromises.promises import allowed, asked, is_promise, is_stronger, parting_row
from roundpromises.rows import first_of, is_row, last_of, latest_of, rows, until
from roundpromises.serving import (
    are_even,
    is_parting,
    is_translator,
    parting_promises,
    serves,
    translated,
    translator,
)
from roundpromises.sights import Panel, arrivals_of, environments, is_environment, look_alike, many_environments
from roundpromises.tables import Table, constant, later, rung, sooner
from roundpromises.terms import holds, is_cases, is_condition, letter_of, letters_of
from tests.helpers import JUNK, Case

CASES = [("x", (("rings", "out"),)), ("y", (("silent", "b"),))]
PROMISES = [((), ("first", ("b",), 0, 2)), ((("rings", "b"),), ("last", ("start",), 0, 4))]
PANEL = Panel(["b"], 2, {"b": (0, 1)}, 1)
EXACT = Panel(["b"], 2, None, 1)
TASK = Task(PANEL, CASES, PROMISES, ["other"])
LOST = Task(PANEL, CASES, PROMISES, ["x"])
ROW, ENVIRONMENT = (1,), ((1,), (1,), 1)
TABLE = constant(1, 2, 2)

CALLS = [
    (is_row, ROW, 2),
    (rows, 2, 2),
    (first_of, ROW, (0,)),
    (last_of, ROW, (0,)),
    (latest_of, ROW, (0,)),
    (until, ROW, 0),
    (is_condition, (("rings", "a"),), ["a", "b"]),
    (holds, (("rings", "b"),), {"b": 2}),
    (is_cases, CASES, ["b", "out"]),
    (letters_of, CASES),
    (letter_of, CASES, {"b": 1, "out": None}),
    (is_promise, PROMISES[0], ("b",)),
    (asked, PROMISES[0], ("b",), ROW),
    (allowed, PROMISES, ("b",), ROW),
    (is_stronger, PROMISES, [], ("b",), 2),
    (parting_row, [], PROMISES, ("b",), 2),
    (Panel, ["b"], 2, {"b": (0, 1)}, 1),
    (PANEL.with_sight, {"b": (1, 1)}),
    (PANEL.with_slip, 0),
    (is_environment, PANEL, ENVIRONMENT),
    (arrivals_of, PANEL, ENVIRONMENT),
    (many_environments, PANEL),
    (environments, PANEL),
    (look_alike, ROW, (2,), 2, 0),
    (Table, 1, 2, TABLE.answers()),
    (TABLE.answers,),
    (TABLE.answer, ROW),
    (constant, 1, 2, None),
    (sooner, TABLE, constant(1, 2, 0)),
    (later, TABLE, constant(1, 2, 0)),
    (rung, PANEL, TABLE, ENVIRONMENT),
    (Task, PANEL, CASES, PROMISES, ["y", "x"]),
    (is_right, TASK, ENVIRONMENT, 1),
    (good, TASK, ROW),
    (keeps, TASK, TABLE),
    (earliest, TASK),
    (latest, TASK),
    (had, TASK, ROW),
    (quarrel, LOST),
    (is_quarrel, LOST, quarrel(LOST)),
    (against, LOST, quarrel(LOST), TABLE),
    (on_top, TASK, PROMISES[0]),
    (tightest, TASK, (), "first", ("b",)),
    (serves, EXACT, PANEL),
    (are_even, EXACT, PANEL),
    (translator, EXACT, PANEL),
    (is_translator, EXACT, PANEL, translator(EXACT, PANEL)),
    (translated, EXACT, PANEL, translator(EXACT, PANEL), TABLE),
    (parting_promises, PANEL, EXACT),
    (is_parting, PANEL, EXACT, parting_promises(PANEL, EXACT)),
    (is_form, ALWAYS, ("a",)),
    (matches, ALWAYS, ("a",)),
    (form_behind, ALWAYS, ("a",)),
    (are_alike, ALWAYS, ("any",), ("a",)),
    (parting_word, ALWAYS, ("any",), ("a",)),
]


WRONG = "?"
# For each function, in the order in which they are looked at: a parameter, what is right in its place, and the
# error, with its attribute, for what is wrong there. None stands for a parameter for which any value is right.
ORDERED = [
    (is_row, ("thing", ROW, None), ("length", 2, "BadLength")),
    (rows, ("size", 1, "BadSize"), ("length", 2, "BadLength")),
    (first_of, ("row", ROW, "BadRow"), ("places", (0,), "BadPlaces")),
    (last_of, ("row", ROW, "BadRow"), ("places", (0,), "BadPlaces")),
    (latest_of, ("row", ROW, "BadRow"), ("places", (0,), "BadPlaces")),
    (until, ("row", ROW, "BadRow"), ("moment", 2, "BadMoment")),
    (is_condition, ("thing", (), None), ("names", [], "BadNames")),
    (holds, ("condition", (), "BadCondition", None), ("times", {}, "BadTimes")),
    (is_cases, ("thing", [], None), ("names", [], "BadNames")),
    (letters_of, ("cases", [], "BadCases")),
    (letter_of, ("cases", [], "BadCases"), ("times", {}, "BadTimes")),
    (is_promise, ("inputs", ("b",), "BadInputs"), ("thing", PROMISES[0], None)),
    (asked, ("inputs", ("b",), "BadInputs"), ("promise", PROMISES[0], "BadPromise"), ("row", ROW, "BadRow")),
    (allowed, ("inputs", ("b",), "BadInputs"), ("promises", PROMISES, "BadPromises", None), ("row", ROW, "BadRow")),
    (
        is_stronger,
        ("inputs", ("b",), "BadInputs"),
        ("one", PROMISES, "BadPromises", None),
        ("other", PROMISES, "BadPromises", None),
        ("length", 2, "BadLength"),
    ),
    (
        parting_row,
        ("inputs", ("b",), "BadInputs"),
        ("one", PROMISES, "BadPromises", None),
        ("other", PROMISES, "BadPromises", None),
        ("length", 2, "BadLength"),
    ),
    (
        Panel,
        ("inputs", ["b"], "BadPanel", "inputs"),
        ("length", 2, "BadPanel", "length"),
        ("sight", None, "BadPanel", "sight"),
        ("slip", 0, "BadPanel", "slip"),
    ),
    (PANEL.with_sight, ("sight", None, "BadPanel", "sight")),
    (PANEL.with_slip, ("slip", 0, "BadPanel", "slip")),
    (is_environment, ("panel", PANEL, "BadPanel", None), ("thing", ENVIRONMENT, None)),
    (arrivals_of, ("panel", PANEL, "BadPanel", None), ("environment", ENVIRONMENT, "BadEnvironment")),
    (many_environments, ("panel", PANEL, "BadPanel", None)),
    (environments, ("panel", PANEL, "BadPanel", None)),
    (
        look_alike,
        ("length", 2, "BadLength"),
        ("one", ROW, "BadRow"),
        ("other", ROW, "BadRow"),
        ("moment", 0, "BadMoment"),
    ),
    (
        Table,
        ("size", 1, "BadTable", "size"),
        ("length", 2, "BadTable", "length"),
        ("answers", TABLE.answers(), "BadTable", "answers"),
    ),
    (TABLE.answer, ("arrivals", ROW, "BadRow")),
    (constant, ("size", 1, "BadSize"), ("length", 2, "BadLength"), ("moment", 2, "BadMoment")),
    (sooner, ("one", TABLE, "BadTable", None), ("other", TABLE, "BadTable", None)),
    (later, ("one", TABLE, "BadTable", None), ("other", TABLE, "BadTable", None)),
    (
        rung,
        ("panel", PANEL, "BadPanel", None),
        ("table", TABLE, "BadTable", None),
        ("environment", ENVIRONMENT, "BadEnvironment"),
    ),
    (
        Task,
        ("panel", PANEL, "BadTask", "panel"),
        ("cases", CASES, "BadTask", "cases"),
        ("promises", PROMISES, "BadTask", "promises"),
        ("barred", [], "BadTask", "barred"),
    ),
    (
        is_right,
        ("task", TASK, "BadTask", None),
        ("environment", ENVIRONMENT, "BadEnvironment"),
        ("moment", 1, "BadMoment"),
    ),
    (good, ("task", TASK, "BadTask", None), ("arrivals", ROW, "BadRow")),
    (keeps, ("task", TASK, "BadTask", None), ("table", TABLE, "BadTable", None)),
    (earliest, ("task", TASK, "BadTask", None)),
    (latest, ("task", TASK, "BadTask", None)),
    (had, ("task", TASK, "BadTask", None), ("arrivals", ROW, "BadRow")),
    (quarrel, ("task", TASK, "BadTask", None)),
    (is_quarrel, ("task", LOST, "BadTask", None), ("thing", quarrel(LOST), None)),
    (
        against,
        ("task", LOST, "BadTask", None),
        ("quarrel", quarrel(LOST), "BadQuarrel"),
        ("table", TABLE, "BadTable", None),
    ),
    (on_top, ("task", TASK, "BadTask", None), ("promise", PROMISES[0], "BadPromise")),
    (
        tightest,
        ("task", TASK, "BadTask", None),
        ("condition", (), "BadCondition", None),
        ("which", "first", "BadWindow"),
        ("names", ("b",), "BadWindow"),
    ),
    (serves, ("one", EXACT, "BadPanel", None), ("other", PANEL, "BadPanel", None)),
    (are_even, ("one", EXACT, "BadPanel", None), ("other", PANEL, "BadPanel", None)),
    (translator, ("one", EXACT, "BadPanel", None), ("other", PANEL, "BadPanel", None)),
    (is_translator, ("one", EXACT, "BadPanel", None), ("other", PANEL, "BadPanel", None), ("thing", {}, None)),
    (
        translated,
        ("one", EXACT, "BadPanel", None),
        ("other", PANEL, "BadPanel", None),
        ("translator", translator(EXACT, PANEL), "BadTranslator"),
        ("table", TABLE, "BadTable", None),
    ),
    (parting_promises, ("one", EXACT, "BadPanel", None), ("other", PANEL, "BadPanel", None)),
    (is_parting, ("one", EXACT, "BadPanel", None), ("other", PANEL, "BadPanel", None), ("thing", [], None)),
    (is_form, ("letters", ("a",), "BadLetters"), ("thing", ALWAYS, None)),
    (matches, ("form", ALWAYS, "BadForm"), ("word", (), "BadWord")),
    (form_behind, ("form", ALWAYS, "BadForm"), ("word", (), "BadWord")),
    (are_alike, ("letters", ("a",), "BadLetters"), ("one", ALWAYS, "BadForm"), ("other", ALWAYS, "BadForm")),
    (parting_word, ("letters", ("a",), "BadLetters"), ("one", ALWAYS, "BadForm"), ("other", ALWAYS, "BadForm")),
]


def shown(value):
    """A value as words, objects by their attributes."""
    if isinstance(value, (Panel, Table, Task)):
        return repr({name: shown(part) for name, part in vars(value).items() if name != "_lay"})
    if isinstance(value, (list, tuple)):
        return repr([type(value).__name__, *map(shown, value)])
    if isinstance(value, dict):
        return repr([(shown(key), shown(part)) for key, part in value.items()])
    return repr(value)


def turned(value):
    """The value with tuples for its lists, and the keys of its dicts the other way round."""
    if isinstance(value, list):
        return tuple(turned(part) for part in value)
    if isinstance(value, tuple):
        return tuple(turned(part) for part in value)
    if isinstance(value, dict):
        return {key: turned(value[key]) for key in reversed(list(value))}
    return value


def spoil(value):
    """Change all lists and dicts in a value."""
    if isinstance(value, dict):
        for part in value.values():
            spoil(part)
        value.clear()
    elif isinstance(value, list):
        for part in value:
            spoil(part)
        value.clear()
    elif isinstance(value, tuple):
        for part in value:
            spoil(part)


class Conventions(Case):
    def test_equal_arguments_give_equal_results(self):
        for function, *args in CALLS:
            wanted = shown(function(*args))
            self.assertEqual(shown(function(*args)), wanted)
            self.assertEqual(shown(function(*turned(args))), wanted, function)
            self.assertEqual(shown(function(*copy.deepcopy(args))), wanted)

    def test_what_is_passed_is_not_changed(self):
        for function, *args in CALLS:
            ahead = shown(args)
            function(*args)
            self.assertEqual(shown(args), ahead)

    def test_what_is_passed_may_change(self):
        for function, *args in CALLS:
            args = copy.deepcopy(args)
            found = function(*args)
            ahead = shown(found)
            spoil(args)
            self.assertEqual(shown(found), ahead, function)

    def test_what_is_returned_is_new(self):
        for function, *args in CALLS:
            wanted = shown(function(*args))
            spoil(function(*args))
            self.assertEqual(shown(function(*args)), wanted, function)

    def test_a_refused_call_changes_nothing(self):
        for function, *args in CALLS:
            for at in range(len(args)):
                for thing in JUNK:
                    changed = [*args[:at], thing, *args[at + 1 :]]
                    ahead = shown([args, changed, TASK, LOST, PANEL, TABLE])
                    try:
                        function(*changed)
                    except PromiseError:
                        pass
                    except Exception as error:
                        raise AssertionError((function, changed)) from error
                    self.assertEqual(shown([args, changed, TASK, LOST, PANEL, TABLE]), ahead)

    def test_which_error_comes_first(self):
        """One parameter is wrong, alone and with any of those that are looked at behind it."""
        for function, *parameters in ORDERED:
            right = {name: value for name, value, *_ in parameters}
            function(**right)
            for at, (name, _, error, *attribute) in enumerate(parameters):
                behind = [other for other, *_ in parameters[at + 1 :]]
                for many in range(len(behind) + 1):
                    for wrong in itertools.combinations(behind, many):
                        told = {**right, name: WRONG, **dict.fromkeys(wrong, WRONG)}
                        if error is not None:
                            self.due(function, told, error, attribute)

    def due(self, function, told, error, attribute):
        with self.assertRaises(PromiseError) as caught:
            function(**told)
        self.assertEqual(caught.exception.__class__.__name__, error, (function, told))
        self.assertEqual([value for value in vars(caught.exception).values()], attribute, (function, told))

    def test_all_functions_are_looked_at(self):
        self.assertEqual({function for function, *_ in CALLS} - {function for function, *_ in ORDERED}, {TABLE.answers})

    def test_objects_are_equal_to_no_value_of_another_kind(self):
        things = [PANEL, TABLE, TASK]
        for thing in things:
            self.assertTrue(thing == copy.deepcopy(thing))
            for other in [*JUNK[:-1], *things]:
                self.assertIs(thing == other, thing is other)
                self.assertIs(thing != other, thing is not other)

    def test_true_is_never_1(self):
        """In each place where a number stands in what is passed, True and False are refused, or judged wrong."""
        tried = 0
        for function, *args in CALLS:
            for changed in with_bools(args):
                tried += 1
                try:
                    found = function(*changed)
                except PromiseError:
                    continue
                self.assertIs(found, False, (function, changed))
        self.assertGreater(tried, 60)

    def test_numbers_of_twelve_digits(self):
        for number in (10**11, -(10**11)):
            self.assertIs(is_row((number,), 8), False)
            self.assertIs(is_condition((("gap", "a", "b", number),), ["a", "b"]), False)
            self.assertIs(is_environment(PANEL, ((0,), (0,), number)), False)

    def test_bools_are_returned(self):
        for function, *args in CALLS:
            if function.__name__.startswith(("is_", "are_")) or function in (
                holds,
                look_alike,
                keeps,
                on_top,
                serves,
                matches,
            ):
                self.assertIn(function(*args), (True, False))
                self.assertIsInstance(function(*args), bool)


def with_bools(value):
    """All values that come from one by putting True for one 1 in it, or False for one 0."""
    if isinstance(value, (list, tuple)):
        for at, part in enumerate(value):
            for changed in with_bools(part):
                yield type(value)([*value[:at], changed, *value[at + 1 :]])
    elif isinstance(value, dict):
        for key, part in value.items():
            for changed in with_bools(part):
                yield {**value, key: changed}
            for changed in with_bools(key):
                yield {(changed if other == key else other): worth for other, worth in value.items()}
    elif isinstance(value, int) and value in (0, 1):
        yield bool(value)


class TrueIsNotOne(Case):
    def test_with_bools(self):
        self.same(
            list(with_bools([1, (0, 2), {1: 0}])),
            [[True, (0, 2), {1: 0}], [1, (False, 2), {1: 0}], [1, (0, 2), {1: False}], [1, (0, 2), {True: 0}]],
        )

    def test_answers_with_bools(self):
        for answers in with_bools(constant(1, 1, 1).answers()):
            with self.assertRaises(PromiseError):
                Table(1, 1, answers)

    def test_sights_with_bools(self):
        for sight in itertools.chain(with_bools({"a": (0, 1)}), with_bools({"a": (1, 1)})):
            with self.assertRaises(PromiseError):
                Panel(["a"], 2, sight, 0)


if __name__ == "__main__":
    unittest.main()
