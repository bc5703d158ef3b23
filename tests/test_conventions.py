"""Points 2 to 5: what holds of all modules."""

import copy
import itertools
import unittest

from roundpromises.desk import Desk
from roundpromises.errors import PromiseError
from roundpromises.journals import first_wrong
from roundpromises.machines import Machine
from roundpromises.plant import Plant
from roundpromises.rows import is_row, rows
from roundpromises.sights import Panel, is_environment
from roundpromises.tables import Table, constant
from roundpromises.terms import is_condition
from tests import calls, calls_books, calls_machines, calls_plant, calls_works
from tests.helpers import JUNK, Case

CALLS = calls.CALLS + calls_works.CALLS + calls_machines.CALLS + calls_books.CALLS + calls_plant.CALLS
ORDERED = calls.ORDERED + calls_works.ORDERED + calls_machines.ORDERED + calls_books.ORDERED + calls_plant.ORDERED
WRONG = "?"
THINGS = [calls.PANEL, calls.TABLE, calls.TASK, calls.LOST, *calls_works.THINGS, *calls_machines.THINGS]
THINGS += calls_plant.THINGS
WHETHER = (
    "holds look_alike keeps on_top serves matches lasts keeps_round same_plays keeps_for_ever machines_alike "
    "carries surely_keeps surely_breaks explains".split()
)
# What objects work out once, when it is asked for.
KEPT = ("_looks", "_modes")


# What a plant tells of itself; its attributes hold the works many times.
TOLD = "first log works past mode moment heard rung book broken".split()


def shown(value):
    """A value as words, objects by their attributes."""
    if isinstance(value, Plant):
        return repr([shown(getattr(value, name)()) for name in TOLD])
    if value.__class__.__module__.startswith("roundpromises."):
        return repr({name: shown(part) for name, part in vars(value).items() if name not in KEPT})
    if isinstance(value, (list, tuple)):
        return repr([type(value).__name__, *map(shown, value)])
    if isinstance(value, dict):
        return repr([(shown(key), shown(part)) for key, part in value.items()])
    return repr(value)


def turned(value):
    """The value with tuples for its lists, and the keys of its dicts the other way round."""
    if isinstance(value, list):
        return tuple(turned(part) for part in value)
    if isinstance(value, tuple):
        return tuple(turned(part) for part in value)
    if isinstance(value, dict):
        return {key: turned(value[key]) for key in reversed(list(value))}
    return value


def spoil(value):
    """Change all lists and dicts in a value."""
    if isinstance(value, dict):
        for part in value.values():
            spoil(part)
        value.clear()
    elif isinstance(value, list):
        for part in value:
            spoil(part)
        value.clear()
    elif isinstance(value, tuple):
        for part in value:
            spoil(part)


def tables_in(value):
    """All Tables in a value, those of machines and dicts too."""
    if isinstance(value, Table):
        yield value
    elif isinstance(value, (list, tuple)):
        for part in value:
            yield from tables_in(part)
    elif isinstance(value, dict):
        yield from tables_in(list(value.values()))
    elif isinstance(value, Machine):
        yield from tables_in(value.states)


class Conventions(Case):
    def test_all_tables_that_are_returned_are_tables(self):
        """Their answers are those of a Table for whoever passes them, in the order of the rows, and hold no bools."""
        found = 0
        for function, *args in CALLS:
            for table in tables_in(function(*args)):
                found += 1
                answers = table.answers()
                self.same(list(answers), rows(table.size, table.length))
                self.assertTrue(Table(table.size, table.length, answers) == table, function)
                self.assertFalse(any(isinstance(time, bool) for time in answers.values()))
        self.assertGreater(found, 20)

    def test_equal_arguments_give_equal_results(self):
        for function, *args in CALLS:
            wanted = shown(function(*args))
            self.assertEqual(shown(function(*args)), wanted)
            self.assertEqual(shown(function(*turned(args))), wanted, function)
            self.assertEqual(shown(function(*copy.deepcopy(args))), wanted)

    def test_what_is_passed_is_not_changed(self):
        for function, *args in CALLS:
            ahead = shown(args)
            function(*args)
            self.assertEqual(shown(args), ahead)

    def test_what_is_passed_may_change(self):
        for function, *args in CALLS:
            args = copy.deepcopy(args)
            found = function(*args)
            ahead = shown(found)
            spoil(args)
            self.assertEqual(shown(found), ahead, function)

    def test_what_is_returned_is_new(self):
        for function, *args in CALLS:
            wanted = shown(function(*args))
            spoil(function(*args))
            self.assertEqual(shown(function(*args)), wanted, function)

    def test_a_refused_call_changes_nothing(self):
        for function, *args in CALLS:
            every = [[*args[:at], thing, *args[at + 1 :]] for at in range(len(args)) for thing in JUNK]
            ahead = shown([args, every, THINGS])
            for changed in every:
                try:
                    function(*changed)
                except PromiseError:
                    pass
                except Exception as error:
                    raise AssertionError((function, changed)) from error
            self.assertEqual(shown([args, every, THINGS]), ahead, function)

    def test_which_error_comes_first(self):
        """One parameter is wrong, alone and with any of those that are looked at behind it."""
        for function, *parameters in ORDERED:
            right = {name: value for name, value, *_ in parameters}
            function(**right)
            for at, (name, _, error, *attribute) in enumerate(parameters):
                behind = [other for other, *_ in parameters[at + 1 :]]
                for many in range(len(behind) + 1):
                    for wrong in itertools.combinations(behind, many):
                        told = {**right, name: WRONG, **dict.fromkeys(wrong, WRONG)}
                        if error is not None:
                            self.due(function, told, error, attribute)

    def due(self, function, told, error, attribute):
        with self.assertRaises(PromiseError) as caught:
            function(**told)
        self.assertEqual(caught.exception.__class__.__name__, error, (function, told))
        self.assertEqual([value for value in vars(caught.exception).values()], attribute, (function, told))

    def test_all_functions_are_looked_at(self):
        # Methods of plants are told apart by their names, as plants are no keys.
        left = {function.__name__ for function, *args in CALLS if args}
        self.assertEqual(left - {function.__name__ for function, *_ in ORDERED}, set())

    def test_objects_are_equal_to_no_value_of_another_kind(self):
        for thing in THINGS:
            if not isinstance(thing, Desk):
                self.assertTrue(thing == copy.deepcopy(thing))
            for other in [*JUNK[:-1], *THINGS]:
                self.assertIs(thing == other, thing is other)
                self.assertIs(thing != other, thing is not other)

    def test_true_is_never_1(self):
        """In each place where a number stands in what is passed, True and False are refused, or judged wrong."""
        tried = 0
        for function, *args in CALLS:
            for changed in with_bools(args):
                tried += 1
                try:
                    found = function(*changed)
                except PromiseError:
                    continue
                if function is first_wrong:
                    self.assertIn(found, range(60))
                else:
                    self.assertIs(found, False, (function, changed))
        self.assertGreater(tried, 60)

    def test_numbers_of_twelve_digits(self):
        for number in (10**11, -(10**11)):
            self.assertIs(is_row((number,), 8), False)
            self.assertIs(is_condition((("gap", "a", "b", number),), ["a", "b"]), False)
            self.assertIs(is_environment(calls.PANEL, ((0,), (0,), number)), False)

    def test_bools_are_returned(self):
        for function, *args in CALLS:
            if function.__name__.startswith(("is_", "are_", "can_")) or function.__name__ in WHETHER:
                self.assertIn(function(*args), (True, False))
                self.assertIsInstance(function(*args), bool)


def with_bools(value):
    """All values that come from one by putting True for one 1 in it, or False for one 0."""
    if isinstance(value, (list, tuple)):
        for at, part in enumerate(value):
            for changed in with_bools(part):
                yield type(value)([*value[:at], changed, *value[at + 1 :]])
    elif isinstance(value, dict):
        for key, part in value.items():
            for changed in with_bools(part):
                yield {**value, key: changed}
            for changed in with_bools(key):
                yield {(changed if other == key else other): worth for other, worth in value.items()}
    elif isinstance(value, int) and value in (0, 1):
        yield bool(value)


class TrueIsNotOne(Case):
    def test_with_bools(self):
        self.same(
            list(with_bools([1, (0, 2), {1: 0}])),
            [[True, (0, 2), {1: 0}], [1, (False, 2), {1: 0}], [1, (0, 2), {1: False}], [1, (0, 2), {True: 0}]],
        )

    def test_answers_with_bools(self):
        for answers in with_bools(constant(1, 1, 1).answers()):
            with self.assertRaises(PromiseError):
                Table(1, 1, answers)

    def test_sights_with_bools(self):
        for sight in itertools.chain(with_bools({"a": (0, 1)}), with_bools({"a": (1, 1)})):
            with self.assertRaises(PromiseError):
                Panel(["a"], 2, sight, 0)


if __name__ == "__main__":
    unittest.main()
