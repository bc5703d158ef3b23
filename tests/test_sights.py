"""Points 40 and 41: panels, environments, what looks alike."""

import itertools
import unittest

from roundpromises.errors import (
    BadEnvironment,
    BadLength,
    BadMoment,
    BadPanel,
    BadRow,
    TooMany,
)
from roundpromises.rows import rows, until
from roundpromises.sights import Panel, arrivals_of, environments, is_environment, look_alike, many_environments
from tests.helpers import JUNK, Case, late, pairs_of_delays, times_of

BAD_SIGHTS = (
    {},
    [],
    (),
    3,
    "ab",
    True,
    {"a": (0, 0)},
    {"a": (0, 0), "b": (0, 0), "c": (0, 0)},
    {"a": (0, 0), "c": (0, 0)},
    {"a": [0, 0], "b": (0, 0)},
    {"a": (0, 5), "b": (0, 0)},
    {"a": (1, 0), "b": (0, 0)},
    {"a": (-1, 0), "b": (0, 0)},
    {"a": (0, True), "b": (0, 0)},
    {"a": (False, 0), "b": (0, 0)},
    {"a": (0,), "b": (0, 0)},
    {"a": (0, 0, 0), "b": (0, 0)},
    {"a": None, "b": (0, 0)},
    {"a": (0, None), "b": (0, 0)},
    {1: (0, 0), "b": (0, 0)},
)


class Panels(Case):
    def test_attributes(self):
        panel = Panel(["b", "a"], 3, {"b": (0, 4), "a": (2, 2)}, 2)
        self.same((panel.inputs, panel.length, panel.delays, panel.slip), (("a", "b"), 3, ((2, 2), (0, 4)), 2))
        panel = Panel(("c", "a", "b"), 8, None, 0)
        self.same((panel.inputs, panel.length, panel.delays, panel.slip), (("a", "b", "c"), 8, ((0, 0),) * 3, 0))
        self.same(Panel(["a"], 1, {"a": (2, 2)}, 0).delays, ((2, 2),))

    def test_refused(self):
        for inputs in (
            None,
            [],
            (),
            "ab",
            ["a", "a"],
            ["a", "b", "c", "d"],
            ["out"],
            ["A"],
            [1],
            [["a"]],
            {"a": 1},
            [None],
            ["start"],
            ["other"],
            True,
        ):
            self.refused(BadPanel, Panel, inputs, 0, 3, 3, part="inputs")
        for length in (0, 9, None, True, "3", [3], -1):
            self.refused(BadPanel, Panel, ["b", "a"], length, {}, 3, part="length")
        for sight in BAD_SIGHTS:
            self.refused(BadPanel, Panel, ["b", "a"], 3, sight, 3, part="sight")
            self.refused(BadPanel, Panel(["b", "a"], 3, None, 0).with_sight, sight, part="sight")
        for slip in (3, -1, None, True, False, "1", [1]):
            self.refused(BadPanel, Panel, ["b", "a"], 3, None, slip, part="slip")
            self.refused(BadPanel, Panel(["b", "a"], 3, None, 0).with_slip, slip, part="slip")

    def test_equality(self):
        panel = Panel(["a", "b"], 3, {"a": (0, 1), "b": (2, 4)}, 1)
        self.assertTrue(panel == Panel(("b", "a"), 3, {"b": (2, 4), "a": (0, 1)}, 1))
        self.assertFalse(panel != Panel(("b", "a"), 3, {"b": (2, 4), "a": (0, 1)}, 1))
        for other in (
            Panel(["a", "c"], 3, {"a": (0, 1), "c": (2, 4)}, 1),
            Panel(["a", "b"], 4, {"a": (0, 1), "b": (2, 4)}, 1),
            Panel(["a", "b"], 3, {"a": (0, 2), "b": (2, 4)}, 1),
            Panel(["a", "b"], 3, {"a": (0, 1), "b": (2, 4)}, 2),
            Panel(["a"], 3, {"a": (0, 1)}, 1),
        ):
            self.assertTrue(panel != other)
            self.assertFalse(panel == other)
        self.assertTrue(Panel(["a"], 2, None, 0) == Panel(["a"], 2, {"a": (0, 0)}, 0))

    def test_with_sight_and_slip(self):
        panel = Panel(["a", "b"], 3, {"a": (0, 1), "b": (2, 4)}, 1)
        self.assertTrue(panel.with_sight(None) == Panel(["a", "b"], 3, None, 1))
        self.assertTrue(
            panel.with_sight({"b": (1, 1), "a": (4, 4)}) == Panel(["a", "b"], 3, {"a": (4, 4), "b": (1, 1)}, 1)
        )
        self.assertTrue(panel.with_slip(2) == Panel(["a", "b"], 3, {"a": (0, 1), "b": (2, 4)}, 2))
        self.same((panel.delays, panel.slip), (((0, 1), (2, 4)), 1))

    def test_what_is_passed_may_change(self):
        inputs, sight = ["a"], {"a": (0, 1)}
        panel = Panel(inputs, 3, sight, 1)
        inputs.append("b")
        sight["a"] = (3, 3)
        sight["b"] = (0, 0)
        self.same((panel.inputs, panel.delays), (("a",), ((0, 1),)))


class Environments(Case):
    def test_is_environment(self):
        panel = Panel(["a", "b"], 3, {"a": (0, 1), "b": (2, 4)}, 1)
        for thing in (((0, None), (0, 4), 0), ((3, 3), (1, 2), 1), ((None, None), (0, 2), 0)):
            self.assertIs(is_environment(panel, thing), True)
        for thing in JUNK + (
            ((0, 4), (0, 4), 0),
            ((0,), (0, 4), 0),
            ((0, 0, 0), (0, 4), 0),
            ([0, 0], (0, 4), 0),
            ((True, 0), (0, 4), 0),
            ((0, 0), (2, 4), 0),
            ((0, 0), (0, 1), 0),
            ((0, 0), (0, 5), 0),
            ((0, 0), (0,), 0),
            ((0, 0), (0, 4, 0), 0),
            ((0, 0), [0, 4], 0),
            ((0, 0), (True, 4), 0),
            ((0, 0), (None, 4), 0),
            ((0, 0), (0, 4), 2),
            ((0, 0), (0, 4), -1),
            ((0, 0), (0, 4), True),
            ((0, 0), (0, 4), None),
            ((0, 0), (0, 4)),
            ((0, 0), (0, 4), 0, 0),
            [(0, 0), (0, 4), 0],
        ):
            self.assertIs(is_environment(panel, thing), False, thing)

    def test_arrivals(self):
        panel = Panel(["a", "b"], 3, {"a": (0, 4), "b": (0, 4)}, 2)
        for row, delays in itertools.product(rows(2, 3), itertools.product(range(5), repeat=2)):
            wanted = tuple(
                None if time is None or time + delay > 3 else time + delay for time, delay in zip(row, delays)
            )
            self.same(arrivals_of(panel, (row, delays, 2)), wanted)
        self.same(arrivals_of(panel, ((0, 3), (3, 0), 0)), (3, 3))
        self.same(arrivals_of(panel, ((0, 3), (4, 1), 0)), (None, None))

    def test_all_environments(self):
        for inputs, length in ((["a"], 1), (["a"], 2), (["a"], 8), (["a", "b"], 1), (["b", "c", "a"], 1)):
            pairs = pairs_of_delays(length)[:: 1 if len(inputs) == 1 else 3]
            for sight, slip in itertools.product(itertools.product(pairs, repeat=len(inputs)), (0, 2)):
                panel = Panel(inputs, length, dict(zip(inputs, sight)), slip)
                found = environments(panel)
                self.assertEqual(len(found), many_environments(panel))
                self.assertTrue(all(is_environment(panel, environment) for environment in found))
                keys = [([late(time) for time in row], delays, late_by) for row, delays, late_by in found]
                self.assertTrue(all(one < other for one, other in zip(keys, keys[1:])))
                many = (length + 2) ** len(inputs) * (slip + 1)
                for least, most in sight:
                    many *= most - least + 1
                self.assertEqual(len(found), many)

    def test_ascending_by_hand(self):
        self.same(
            environments(Panel(["a"], 1, {"a": (1, 2)}, 1)),
            [
                ((0,), (1,), 0),
                ((0,), (1,), 1),
                ((0,), (2,), 0),
                ((0,), (2,), 1),
                ((1,), (1,), 0),
                ((1,), (1,), 1),
                ((1,), (2,), 0),
                ((1,), (2,), 1),
                ((None,), (1,), 0),
                ((None,), (1,), 1),
                ((None,), (2,), 0),
                ((None,), (2,), 1),
            ],
        )

    def test_just_as_many_as_can_be(self):
        panel = Panel(["a", "b", "c"], 8, None, 1)
        self.same(many_environments(panel), 2000)
        self.assertEqual(len(environments(panel)), 2000)
        for panel in (Panel(["a", "b", "c"], 8, None, 2), Panel(["a", "b"], 5, {"a": (0, 6), "b": (1, 6)}, 0)):
            self.assertGreater(many_environments(panel), 2000)
            self.refused(TooMany, environments, panel, most=2000)
        self.same(many_environments(Panel(["a", "b"], 5, {"a": (0, 6), "b": (1, 6)}, 0)), 49 * 7 * 6)
        self.same(many_environments(Panel(["a", "b", "c"], 8, dict.fromkeys("abc", (0, 9)), 2)), 3000000)

    def test_refused(self):
        panel = Panel(["a"], 2, {"a": (0, 1)}, 0)
        for thing in (None, [], "panel", ("a",), 3, BadPanel):
            self.refused(BadPanel, is_environment, thing, None, part=None)
            self.refused(BadPanel, arrivals_of, thing, None, part=None)
            self.refused(BadPanel, many_environments, thing, part=None)
            self.refused(BadPanel, environments, thing, part=None)
        for thing in (None, ((0,), (2,), 0), ((0,), (0,), 1), [(0,), (0,), 0], ((3,), (0,), 0), ((0,), (True,), 0)):
            self.refused(BadEnvironment, arrivals_of, panel, thing)

    def test_the_list_is_new(self):
        panel = Panel(["a"], 1, None, 0)
        found = environments(panel)
        found.clear()
        self.assertEqual(len(environments(panel)), 3)


class Alike(Case):
    def test_definition_and_facts(self):
        for size, length in ((1, 1), (1, 2), (1, 8), (2, 1), (2, 2), (3, 1)):
            every = rows(size, length)
            for moment in times_of(length):
                alike = {one: [other for other in every if look_alike(one, other, length, moment)] for one in every}
                for one, others in alike.items():
                    self.assertEqual(others, [other for other in every if until(other, moment) == until(one, moment)])
                    # An equivalence: one's class is the class of each of its members, one among them.
                    self.assertIn(one, others)
                    self.assertTrue(all(alike[other] == others for other in others))
                    for other in others:
                        for earlier in range(length + 1 if moment is None else moment):
                            self.assertIs(look_alike(one, other, length, earlier), True)
        self.assertIs(look_alike((1, 2), (1, 2), 2, None), True)
        self.assertIs(look_alike((1, 2), (1, None), 2, None), False)
        self.assertIs(look_alike((1, 2), (1, None), 2, 1), True)
        self.assertIs(look_alike((1, 2), (1, None), 2, 2), False)

    def test_refused(self):
        for length in (0, 9, None, True, "1"):
            self.refused(BadLength, look_alike, None, None, length, 99)
        for row in (None, (), (4,), (True,), [1], (0, 0, 0, 0)):
            self.refused(BadRow, look_alike, row, row, 3, 99)
            self.refused(BadRow, look_alike, (0,), row, 3, 99)
        self.refused(BadRow, look_alike, (0,), (0, 0), 3, 99)
        self.refused(BadRow, look_alike, (0, 0), (0,), 3, 0)
        for moment in (4, -1, True, "0", [], (1,)):
            self.refused(BadMoment, look_alike, (0,), (0,), 3, moment)


if __name__ == "__main__":
    unittest.main()
