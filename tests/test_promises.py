"""Point 30: promises."""

import itertools
import random
import unittest

from roundpromises.errors import BadInputs, BadLength, BadPromise, BadPromises, BadRow
from roundpromises.promises import allowed, asked, is_promise, is_stronger, parting_row
from roundpromises.rows import rows
from roundpromises.terms import holds
from tests.helpers import Case, junk_but, times_of

BAD_INPUTS = (
    None,
    (),
    ["a"],
    "a",
    ("b", "a"),
    ("a", "a"),
    ("a", "b", "c", "d"),
    ("out",),
    ("A",),
    (1,),
    ({},),
    ("start",),
    ("a", None),
    {"a": 1},
    ("other",),
    True,
)
NEVER = ((), ("never",))
BAD_PROMISES = (
    None,
    (),
    [(), ("never",)],
    ((),),
    ((), ("never",), ()),
    ([], ("never",)),
    ((), ["never"]),
    ((), "never"),
    ((), ()),
    ((), ("never", 1)),
    ((), ("first", ("a",), 0)),
    ((), ("first", ["a"], 0, 1)),
    ((), ("first", (), 0, 1)),
    ((), ("first", ("b", "a"), 0, 1)),
    ((), ("first", ("a", "a"), 0, 1)),
    ((), ("first", ("c",), 0, 1)),
    ((), ("first", ("a", "start"), 0, 1)),
    ((), ("first", ("out",), 0, 1)),
    ((), ("first", "a", 0, 1)),
    ((), ("first", ("a",), 1, 0)),
    ((), ("first", ("a",), -9, 0)),
    ((), ("first", ("a",), 0, 9)),
    ((), ("first", ("a",), True, 1)),
    ((), ("first", ("a",), 0, True)),
    ((), ("first", ("a",), None, 1)),
    ((), ("middle", ("a",), 0, 1)),
    ((), (["first"], ("a",), 0, 1)),
    ((("rings", "out"),), ("never",)),
    ((("rings", "c"),), ("never",)),
    ((("gap", "a", "out", 0),), ("never",)),
    ((("rings", "a"),) * 5, ("never",)),
    ((), ("first", (1,), 0, 1)),
    ((), ("first", (["a"],), 0, 1)),
    ((), ("first", ("a",), 0, 1, 1)),
    ((), ["first", ("a",), 0, 1]),
)


class Promises(Case):
    def test_is_promise(self):
        inputs = ("a", "b")
        for thing in (
            NEVER,
            ((), ("first", ("a",), -8, 8)),
            ((), ("last", ("a", "b"), 0, 0)),
            ((), ("latest", ("b",), 8, 8)),
            ((), ("first", ("start",), -8, -8)),
            ((("gap", "start", "a", 1), ("silent", "b")), ("never",)),
            ((("gap", "a", "start", -1), ("rings", "b"), ("silent", "b"), ("rings", "a")), ("never",)),
        ):
            self.assertIs(is_promise(thing, inputs), True, thing)
        for thing in BAD_PROMISES + tuple(junk_but()):
            self.assertIs(is_promise(thing, inputs), False, thing)
        self.assertIs(is_promise(((), ("first", ("a", "b", "c"), 0, 1)), ("a", "b", "c")), True)
        self.assertIs(is_promise(((), ("first", ("a", "c", "b"), 0, 1)), ("a", "b", "c")), False)

    def test_bad_inputs_come_first(self):
        for inputs in BAD_INPUTS:
            self.refused(BadInputs, is_promise, NEVER, inputs)
            self.refused(BadInputs, asked, "none", inputs, "none")
            self.refused(BadInputs, allowed, "none", inputs, "none")
            self.refused(BadInputs, is_stronger, "none", "none", inputs, "none")
            self.refused(BadInputs, parting_row, "none", "none", inputs, "none")

    def test_asked(self):
        inputs = ("a", "b", "c")
        for row, promise, wanted in (
            ((5, None, 2), NEVER, "never"),
            ((5, None, 2), ((("silent", "a"),), ("never",)), None),
            ((5, None, 2), ((("silent", "b"),), ("never",)), "never"),
            ((5, None, 2), ((), ("first", ("a", "b", "c"), -8, 8)), (-6, 10)),
            ((5, None, 2), ((), ("last", ("a", "b", "c"), -8, 8)), None),
            ((5, None, 2), ((), ("latest", ("a", "b", "c"), -8, 8)), (-3, 13)),
            ((5, None, 2), ((), ("last", ("a", "c"), 0, 0)), (5, 5)),
            ((5, None, 2), ((), ("first", ("b",), 0, 1)), None),
            ((5, None, 2), ((), ("latest", ("b",), 0, 1)), None),
            ((None, None, None), ((), ("first", ("start",), 1, 3)), (1, 3)),
            ((None, None, None), ((), ("last", ("start",), -8, -7)), (-8, -7)),
            ((8, 8, 8), ((), ("latest", ("start",), 8, 8)), (8, 8)),
            ((8, 8, 8), ((), ("latest", ("a", "b"), 8, 8)), (16, 16)),
            ((3, 4, 5), ((("gap", "a", "b", 1),), ("first", ("c",), 0, 0)), (5, 5)),
            ((3, 4, 5), ((("gap", "a", "b", 2),), ("first", ("c",), 0, 0)), None),
            ((3, 4, 5), ((("gap", "start", "b", 4),), ("first", ("c",), 0, 0)), (5, 5)),
            ((3, 4, 5), ((("gap", "start", "b", 5),), ("never",)), None),
        ):
            self.same(asked(promise, inputs, row), wanted)

    def test_asked_refuses(self):
        for promise in BAD_PROMISES:
            self.refused(BadPromise, asked, promise, ("a", "b"), "no row")
        for row in (None, (1,), (1, 2, 3), (9, 0), [1, 2], (True, 0), (), "12", (-1, 0)):
            self.refused(BadRow, asked, NEVER, ("a", "b"), row)
            self.refused(BadRow, allowed, [], ("a", "b"), row)

    def test_allowed(self):
        inputs = ("a", "b")
        for row, promises, wanted in (
            ((0, 0), [], ((0, 10), True)),
            ((0, 0), (), ((0, 10), True)),
            ((0, 0), [NEVER], (None, True)),
            ((3, None), [((), ("first", ("a",), -1, 1))], ((2, 4), False)),
            ((3, None), (((), ("first", ("a",), -1, 1)),), ((2, 4), False)),
            ((3, None), [((), ("first", ("b",), -1, 1))], ((0, 10), True)),
            ((3, None), [((), ("first", ("a",), -8, 8))], ((0, 10), False)),
            ((3, None), [((), ("first", ("a",), -8, -4))], (None, False)),
            ((3, None), [((), ("first", ("a",), -8, -3))], ((0, 0), False)),
            ((8, None), [((), ("first", ("a",), 2, 8))], ((10, 10), False)),
            ((8, None), [((), ("first", ("a",), 3, 8))], (None, False)),
            ((3, 5), [((), ("first", ("a",), 0, 3)), ((), ("first", ("b",), 0, 3))], ((5, 6), False)),
            ((3, 5), [((), ("first", ("a",), 0, 1)), ((), ("first", ("b",), 0, 3))], (None, False)),
            ((3, 5), [((), ("first", ("a",), 0, 1)), NEVER], (None, False)),
            ((3, 5), [NEVER, NEVER], (None, True)),
            ((3, 5), [NEVER, ((), ("first", ("a",), 0, 8))] * 3, (None, False)),
        ):
            self.same(allowed(promises, inputs, row), wanted)

    def test_bad_promises(self):
        for function in (
            lambda promises: allowed(promises, ("a", "b"), "no row"),
            lambda promises: is_stronger(promises, "none", ("a", "b"), 0),
            lambda promises: is_stronger([], promises, ("a", "b"), 0),
            lambda promises: parting_row(promises, "none", ("a", "b"), 0),
            lambda promises: parting_row([], promises, ("a", "b"), 0),
        ):
            for promises in (None, {}, "ab", 3, [NEVER] * 7, (NEVER,) * 7, {NEVER}, [None] * 7):
                self.refused(BadPromises, function, promises, at=None)
            for at in range(6):
                for bad in BAD_PROMISES:
                    self.refused(BadPromises, function, [NEVER] * at + [bad, bad], at=at) if at < 5 else None
                    self.refused(BadPromises, function, [NEVER] * at + [bad], at=at)
        self.refused(BadPromises, is_stronger, [NEVER, 1], [2], ("a",), 0, at=1)

    def test_bad_length_last(self):
        for function in (is_stronger, parting_row):
            for length in (0, 9, None, True, "1", [1]):
                self.refused(BadLength, function, [], [NEVER], ("a",), length)

    def test_stronger_by_hand(self):
        narrow, wide = ((), ("first", ("a",), 0, 1)), ((), ("first", ("a",), 0, 2))
        self.assertIs(is_stronger([narrow], [wide], ("a",), 3), True)
        self.assertIs(is_stronger([wide], [narrow], ("a",), 3), False)
        self.same(parting_row([wide], [narrow], ("a",), 3), (0,))
        self.same(parting_row([], [NEVER], ("a", "b"), 3), (0, 0))
        self.same(parting_row([narrow], [((), ("first", ("start",), 0, 3))], ("a",), 8), (3,))
        self.same(parting_row([NEVER], [((("silent", "a"),), ("first", ("start",), 0, 3))], ("a",), 2), (None,))
        self.assertIs(is_stronger([NEVER, narrow], [], ("a",), 1), True)
        # What can only ring behind the last number, length + 2, makes no difference.
        self.assertIs(
            is_stronger([((), ("first", ("start",), 0, 8))], [((), ("first", ("start",), 0, 4))], ("a",), 2), True
        )
        self.assertIs(
            is_stronger([((), ("first", ("start",), 0, 8))], [((), ("first", ("start",), 0, 3))], ("a",), 2), False
        )
        self.assertIs(
            is_stronger([((), ("first", ("start",), 5, 8))], [((), ("first", ("start",), 0, 0))], ("a",), 2), True
        )
        self.assertIs(
            is_stronger([((), ("first", ("start",), 4, 8))], [((), ("first", ("start",), 0, 0))], ("a",), 2), False
        )

    def test_against_all_numbers(self):
        """The numbers that are allowed have no gap; lists are compared number by number."""
        chance = random.Random(30)
        inputs = ("a", "b")
        windows = [("never",)] + [
            (which, names, low, high)
            for which in ("first", "last", "latest")
            for names in (("a",), ("b",), ("a", "b"), ("start",))
            for low, high in ((-8, -2), (-2, 1), (0, 0), (0, 2), (1, 8))
        ]
        conditions = [(), (("rings", "a"),), (("silent", "b"),), (("gap", "a", "b", 1),), (("gap", "start", "a", 1),)]
        pool = list(itertools.product(conditions, windows))
        for _ in range(120):
            lists = [chance.sample(pool, chance.randint(0, 3)) for _ in range(2)]
            length = chance.randint(1, 3)
            wanted = None
            for row in rows(2, length):
                sets = []
                for promises in lists:
                    numbers = {n for n in range(11) if all(self.lets(promise, inputs, row, n) for promise in promises)}
                    may = all(self.lets(promise, inputs, row, None) for promise in promises)
                    span = (min(numbers), max(numbers)) if numbers else None
                    self.same(allowed(promises, inputs, row), (span, may))
                    self.assertEqual(len(numbers), 0 if span is None else span[1] - span[0] + 1)
                    sets.append({n for n in numbers if n <= length + 2} | ({None} if may else set()))
                if wanted is None and not sets[0] <= sets[1]:
                    wanted = row
            self.same(parting_row(lists[0], lists[1], inputs, length), wanted)
            self.assertIs(is_stronger(lists[0], lists[1], inputs, length), wanted is None)

    def lets(self, promise, inputs, row, number):
        """Whether a promise lets the output ring at a number (or never), told from the words of the document."""
        condition, window = promise
        times = dict(zip(inputs, row))
        if not holds(condition, times):
            return True
        if window == ("never",):
            return number is None
        which, names, low, high = window
        chosen = [0] if names == ("start",) else [times[name] for name in names]
        moments = [time for time in chosen if time is not None]
        if not moments or (which == "last" and len(moments) < len(chosen)):
            return True
        time = min(moments) if which == "first" else max(moments)
        return number is not None and time + low <= number <= time + high

    def test_one_input_in_full(self):
        for time in times_of(8):
            for low, high in ((-8, -8), (-3, 2), (8, 8)):
                self.same(
                    asked(((), ("first", ("a",), low, high)), ("a",), (time,)),
                    None if time is None else (time + low, time + high),
                )


if __name__ == "__main__":
    unittest.main()
