"""Point 65: panels compared, by hand and in full for small rounds."""

import itertools
import unittest

from roundpromises.errors import BadPanel, BadTable, BadTranslator, OtherPanels, OtherTables, TooMany
from roundpromises.one import Task, earliest, keeps
from roundpromises.promises import is_promise
from roundpromises.rows import rows
from roundpromises.serving import (
    are_even,
    is_parting,
    is_translator,
    parting_promises,
    serves,
    translated,
    translator,
)
from roundpromises.sights import Panel, arrivals_of, environments
from roundpromises.tables import constant, rung
from tests.helpers import JUNK, Case, all_tables, late, panels, times_of

NEVER = ((), ("never",))


def one_input(least, greatest, slip=0, length=2):
    return Panel(["b"], length, {"b": (least, greatest)}, slip)


def heard(panel, at, time):
    """The times at which an input may be heard, told from the words of the document."""
    least, most = panel.delays[at]
    if time is None:
        return {None}
    return {None if time + delay > panel.length else time + delay for delay in range(least, most + 1)}


def readings(one, other, at):
    """For each time at which one may hear an input the times that it may be read as."""
    times = times_of(one.length)
    told = {}
    for time in times:
        origins = [origin for origin in times if time in heard(one, at, origin)]
        if origins:
            told[time] = [
                believed
                for believed in times
                if late(believed) >= late(time) and all(believed in heard(other, at, origin) for origin in origins)
            ]
    return told


class ByHand(Case):
    def test_translator(self):
        one, other = one_input(0, 0), one_input(1, 1)
        self.assertIs(serves(one, other), True)
        self.assertIs(serves(other, one), False)
        self.assertIs(are_even(one, other), False)
        self.same(translator(one, other), {"b": {0: 1, 1: 2, 2: None, None: None}})
        self.same(translator(other, one), None)
        self.same(translator(one_input(3, 3), one_input(3, 3)), {"b": {None: None}})
        self.assertIs(are_even(one_input(3, 3), one_input(3, 3)), True)
        # What is not heard anyway makes no difference.
        self.assertIs(serves(one_input(3, 3), one_input(2, 3)), True)
        self.assertIs(serves(one_input(0, 1), one_input(0, 1, slip=1)), True)
        self.assertIs(serves(one_input(0, 1, slip=1), one_input(0, 1)), False)
        self.same(translator(one_input(0, 1, slip=1), one_input(0, 1)), None)

    def test_is_translator(self):
        one, other = one_input(0, 0), one_input(1, 1)
        told = {0: 1, 1: 2, 2: None, None: None}
        self.assertIs(is_translator(one, other, {"b": told}), True)
        self.assertIs(is_translator(one, other, {"b": dict(reversed(told.items()))}), True)
        for thing in JUNK + (
            {},
            {"b": {}},
            {"b": list(told.items())},
            {"a": told},
            {"b": told, "a": told},
            {"b": {**told, 0: 2}},
            {"b": {**told, 0: None}},
            {"b": {**told, 2: 2}},
            {"b": {**told, 0: True}},
            {"b": {**told, 0: 0}},
            {"b": {**told, 0: "1"}},
            {"b": {**told, 0: [1]}},
            {"b": {**told, 3: None}},
            {"b": {0: 1, 1: 2, 2: None}},
            {"b": {0: 1, True: 2, 2: None, None: None}},
            {"b": {False: 1, 1: 2, 2: None, None: None}},
            {"b": {**told, None: 2}},
            {"b": {"x": 1, 1: 2, 2: None, None: None}},
            [("b", told)],
            {1: told},
        ):
            self.assertIs(is_translator(one, other, thing), False, thing)
        self.assertIs(is_translator(one.with_slip(1), other, {"b": told}), False)
        self.assertIs(is_translator(one.with_slip(1), other.with_slip(1), {"b": told}), True)
        self.assertIs(is_translator(one.with_slip(1), other.with_slip(2), {"b": told}), True)

    def test_translators_in_full(self):
        """Of all dicts just those are translators whose times are all believed as the document lets them be."""
        for one, other in itertools.product(panels(["b"], 1, slips=(0, 1)), repeat=2):
            told = readings(one, other, 0)
            found = 0
            for many in range(4):
                for keys in itertools.combinations(times_of(1), many):
                    for believed in itertools.product(times_of(1), repeat=many):
                        chosen = dict(zip(keys, believed))
                        wanted = (
                            one.slip <= other.slip
                            and set(chosen) == set(told)
                            and all(time in told[key] for key, time in chosen.items())
                        )
                        self.assertIs(is_translator(one, other, {"b": chosen}), wanted)
                        found += wanted
            self.assertIs(serves(one, other), found > 0)
            self.assertIs(translator(one, other) is None, found == 0)

    def test_translated(self):
        one, other = one_input(0, 0), one_input(1, 1)
        table = [table for table in all_tables(1, 2) if [table.answer(row) for row in rows(1, 2)] == [2, 1, 2, None]][0]
        found = translated(one, other, translator(one, other), table)
        self.same([found.answer(row) for row in rows(1, 2)], [1, 2, None, None])
        # A time that is no key is read as never.
        one = one_input(2, 2)
        self.same(translator(one, one), {"b": {2: 2, None: None}})
        found = translated(one, one, translator(one, one), table)
        self.same([found.answer(row) for row in rows(1, 2)], [None, None, 2, None])

    def test_partings_by_hand(self):
        self.same(parting_promises(one_input(0, 0), one_input(0, 1)), None)
        self.same(parting_promises(one_input(0, 0), one_input(0, 1, slip=2)), None)
        for one, other in (
            (one_input(1, 1), one_input(0, 0)),
            (one_input(0, 0, slip=1), one_input(0, 0)),
            (one_input(3, 3), one_input(2, 2)),
            (one_input(0, 1), one_input(1, 1)),
            (one_input(0, 2, 0, 6), one_input(1, 2, 2, 6)),
            (one_input(7, 7, 0, 6), one_input(6, 6, 2, 6)),
        ):
            found = parting_promises(one, other)
            self.assertLessEqual(len(found), 2)
            self.assertTrue(all(is_promise(promise, one.inputs) for promise in found))
            self.assertIs(is_parting(one, other, found), True)
            self.assertIs(is_parting(one, other, tuple(found)), True)
            self.assertIs(is_parting(other, one, found), False)
            self.assertIs(is_parting(one, other, found * 7), False)
            for thing in JUNK + ([list(promise) for promise in found], found + [None]):
                self.assertIs(is_parting(one, other, thing), False)
        self.assertIs(is_parting(one_input(1, 1), one_input(0, 0), [NEVER]), False)
        self.assertIs(is_parting(one_input(1, 1), one_input(0, 0), []), False)

    def test_longest_that_are_parted(self):
        """Panels with more environments than can be listed have parting lists, too."""
        inputs = ["a", "b", "c"]
        wide = Panel(inputs, 6, {"a": (0, 7), "b": (0, 7), "c": (0, 3)}, 2)
        for sight in ({"a": (0, 7), "b": (0, 7), "c": (0, 2)}, {"a": (0, 7), "b": (0, 7), "c": (1, 3)}):
            found = parting_promises(wide, wide.with_sight(sight))
            self.assertTrue(1 <= len(found) <= 2)
            # All that the promises speak of is c: alone with it they are judged.
            names = [Panel(["c"], 6, {"c": pair}, 2) for pair in ((0, 3), sight["c"])]
            self.assertIs(is_parting(names[0], names[1], found), True)
        self.assertIsNone(parting_promises(wide, wide))

    def test_refused(self):
        panel = one_input(0, 1)
        calls = (
            serves,
            are_even,
            translator,
            parting_promises,
            lambda one, other: is_translator(one, other, None),
            lambda one, other: is_parting(one, other, None),
            lambda one, other: translated(one, other, None, None),
        )
        for call in calls:
            for thing in (None, [], "panel", 3, constant(1, 2, 0)):
                self.refused(BadPanel, call, thing, None, part=None)
                self.refused(BadPanel, call, panel, thing, part=None)
            for other in (one_input(0, 1, length=3), Panel(["c"], 2, None, 0), Panel(["b", "c"], 2, None, 0)):
                self.refused(OtherPanels, call, panel, other)
        for thing in JUNK + ({"b": {}},):
            self.refused(BadTranslator, translated, panel, panel, thing, None)
        self.refused(
            BadTranslator, translated, one_input(0, 0, slip=1), one_input(0, 0), translator(panel, panel), None
        )
        told = translator(panel, panel)
        for thing in JUNK:
            self.refused(BadTable, translated, panel, panel, told, thing, part=None)
        for table in (constant(1, 3, 0), constant(2, 2, 0)):
            self.refused(OtherTables, translated, panel, panel, told, table)

    def test_too_many(self):
        seven = one_input(0, 0, length=7)
        self.refused(TooMany, parting_promises, seven, seven, most=6)
        self.refused(OtherPanels, parting_promises, seven, one_input(0, 0, length=8))
        self.assertIs(serves(seven, seven), True)
        most = Panel(["a", "b", "c"], 8, None, 1)
        self.assertIs(is_parting(most, most, [NEVER]), False)
        self.refused(TooMany, is_parting, most, most.with_slip(2), None, most=2000)
        self.refused(TooMany, is_parting, most.with_slip(2), most, [NEVER], most=2000)
        self.refused(TooMany, is_parting, most.with_slip(2), most, None, most=2000)
        self.refused(OtherPanels, is_parting, most.with_slip(2), one_input(0, 0), None)
        self.assertIs(is_parting(most, most.with_slip(0), [((), ("first", ("start",), 0, 0))]), True)

    def test_new_at_every_depth(self):
        one, other = one_input(0, 0), one_input(1, 1)
        found = translator(one, other)
        found["b"].clear()
        self.same(translator(one, other), {"b": {0: 1, 1: 2, 2: None, None: None}})
        told = parting_promises(other, one)
        told.clear()
        self.assertTrue(parting_promises(other, one))


def deeds(panel, table):
    """What can come about with a Table: all pairs of a true row and when the output rings, as bits."""
    every = {
        pair: at
        for at, pair in enumerate(
            itertools.product(rows(len(panel.inputs), panel.length), list(range(panel.length + 3)) + [None])
        )
    }
    bits = 0
    for environment in environments(panel):
        bits |= 1 << every[(environment[0], rung(panel, table, environment))]
    return bits


class InFull(Case):
    """All Tables of the one tried against all Tables of the other."""

    def compare(self, one, other, tables, mine, theirs):
        """One serves exactly if to each Table with other there is one with one that does nothing else."""
        told = translator(one, other)
        parting = parting_promises(one, other)
        self.assertIs(serves(one, other), told is not None)
        self.assertIs(serves(one, other), parting is None)
        if told is not None:
            self.assertIs(is_translator(one, other, told), True)
            for table, bits in zip(tables, theirs):
                found = translated(one, other, told, table)
                self.assertEqual(deeds(one, found) & ~bits, 0)
            return True
        self.assertIs(is_parting(one, other, parting), True)
        table = earliest(Task(other, [], parting, []))
        bits = deeds(other, table)
        self.assertIn(bits, theirs)
        self.assertTrue(all(more & ~bits for more in mine))
        for found in tables[:: 1 + len(tables) // 50]:
            self.assertIs(keeps(Task(one, [], parting, []), found), False)
        return False

    def judge(self, every, tables):
        told = [[deeds(panel, table) for table in tables] for panel in every]
        seen = {True: 0, False: 0}
        for (one, mine), (other, theirs) in itertools.product(zip(every, told), repeat=2):
            seen[self.compare(one, other, tables, mine, theirs)] += 1
        self.assertGreater(min(seen.values()), 10)

    def test_one_input_length_1(self):
        self.judge(panels(["b"], 1), all_tables(1, 1))

    def test_one_input_length_2(self):
        self.judge(panels(["b"], 2, slips=(0, 1)), all_tables(1, 2))

    def test_two_inputs_length_1(self):
        self.judge(panels(["a", "b"], 1, slips=(0, 1))[::9], all_tables(2, 1))

    def test_serving_keeps_all_tasks(self):
        """If a Table keeps a task of other, what is translated keeps the one of one, with cases and barred letters."""
        cases = [("x", (("rings", "out"), ("gap", "b", "out", 1))), ("y", (("silent", "out"),))]
        tables = all_tables(1, 2)
        for one, other in itertools.product(panels(["b"], 2, slips=(0, 1))[::3], repeat=2):
            if serves(one, other):
                told = translator(one, other)
                for promises, barred in itertools.product(
                    ([], [((), ("first", ("b",), 0, 2))], [((("silent", "b"),), ("never",))]), ([], ["x"], ["other"])
                ):
                    theirs, mine = Task(other, cases, promises, barred), Task(one, cases, promises, barred)
                    for table in tables[::5]:
                        if keeps(theirs, table):
                            self.assertIs(keeps(mine, translated(one, other, told, table)), True)

    def test_facts(self):
        """Serving is transitive; each panel serves for itself, and for itself with wider pairs or a greater slip."""
        for length in (1, 2, 3):
            every = panels(["b"], length, slips=(0, 2))
            told = {
                (a, b): serves(one, other) for (a, one), (b, other) in itertools.product(enumerate(every), repeat=2)
            }
            for a, one in enumerate(every):
                self.assertIs(told[(a, a)], True)
                self.assertIs(are_even(one, one), True)
                for b, other in enumerate(every):
                    (least, most), (wider, widest) = one.delays[0], other.delays[0]
                    if wider <= least and most <= widest and one.slip <= other.slip:
                        self.assertIs(told[(a, b)], True)
                    self.assertIs(are_even(one, other), told[(a, b)] and told[(b, a)])
                    if told[(a, b)]:
                        self.assertTrue(all(told[(a, c)] for c in range(len(every)) if told[(b, c)]))

    def test_translators_by_definition(self):
        """Up to the longest round that is parted, each time is read as the least one that the document lets it be."""
        for length in (3, 6, 8):
            for one, other in itertools.product(panels(["b"], length, slips=(0,))[::5], repeat=2):
                told = readings(one, other, 0)
                self.assertIs(serves(one, other), all(told.values()))
                if serves(one, other):
                    found = translator(one, other)
                    self.same(list(found["b"]), list(told))
                    self.assertTrue(all(found["b"][time] in told[time] for time in told))
                elif length <= 6:
                    found = parting_promises(one.with_slip(0), other.with_slip(2))
                    self.assertIs(is_parting(one.with_slip(0), other.with_slip(2), found), True)

    def test_no_parting_where_one_serves(self):
        pool = [NEVER] + [
            (condition, window)
            for condition in ((), (("rings", "b"),), (("silent", "b"),))
            for window in (("never",), ("first", ("b",), 0, 1), ("first", ("b",), 1, 1), ("first", ("start",), 0, 1))
        ]
        lists = [[], *([promise] for promise in pool), *([a, b] for a, b in itertools.combinations(pool, 2))]
        for one, other in itertools.product(panels(["b"], 1, slips=(0, 1)), repeat=2):
            if serves(one, other):
                for promises in lists[::4]:
                    self.assertIs(is_parting(one, other, promises), False)
            else:
                for promises in lists[::9]:
                    wanted = (
                        earliest(Task(other, [], promises, [])) is not None
                        and earliest(Task(one, [], promises, [])) is None
                    )
                    self.assertIs(is_parting(one, other, promises), wanted)

    def test_arrivals_agree_with_what_may_be_heard(self):
        for panel in panels(["a", "b"], 1, slips=(0,)):
            for environment in environments(panel):
                for at, time in enumerate(arrivals_of(panel, environment)):
                    self.assertIn(time, heard(panel, at, environment[0][at]))


if __name__ == "__main__":
    unittest.main()
