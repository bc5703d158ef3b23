"""Point 130: with which delays, inputs and slips all can be kept for ever."""

import itertools
import unittest

from roundpromises.corners import greatest_delays, greatest_slip, least_delays, least_seen, with_delays
from roundpromises.errors import BadDelays, BadWorks, TooMany
from roundpromises.ever import good_modes, lasts
from roundpromises.forms import ALWAYS
from roundpromises.sights import Panel
from roundpromises.works import Works
from tests.calls_works import EXACT, LOST, WORKS
from tests.helpers import JUNK, Case
from tests.small import BEHIND_A, Rounds, works_by

CASES = [("a", (("rings", "out"),))]
LAST = ((), ("last", ("a", "b"), 0, 0))
FIRST_A = ((), ("first", ("a",), 0, 1))
LATEST = ((), ("latest", ("a", "b"), 0, 1))
QUIET = ((("silent", "b"),), ("never",))
TOGETHER = ((("gap", "a", "b", 0), ("gap", "b", "a", 0)), ("first", ("a",), 0, 0))
RULES = (
    [],
    [("x", ALWAYS, LAST)],
    [("x", ALWAYS, FIRST_A)],
    [("x", ALWAYS, LATEST)],
    [("x", ("not", BEHIND_A), FIRST_A), ("y", BEHIND_A, QUIET)],
    [("x", ALWAYS, QUIET), ("y", BEHIND_A, ((("rings", "b"),), ("latest", ("a", "b"), 0, 1)))],
    [("x", ALWAYS, ((), ("never",))), ("y", ALWAYS, ((), ("first", ("start",), 0, 1)))],
    [("x", ALWAYS, ((("rings", "a"), ("rings", "b")), ("first", ("start",), 1, 1))), ("y", ALWAYS, QUIET)],
    [("x", ALWAYS, TOGETHER)],
)


def works_with_two():
    for rules in RULES:
        yield Works(Panel(["a", "b"], 1, {"a": (0, 2), "b": (1, 1)}, 0), CASES, rules)
    yield Works(Panel(["a", "b"], 1, None, 1), CASES, [("x", ALWAYS, ((), ("first", ("a", "b"), 0, 2)))])


def every_delays(works):
    return list(itertools.product(range(works.panel.length + 2), repeat=len(works.panel.inputs)))


def at_most(one, other):
    return all(less <= more for less, more in zip(one, other))


class Delays(Case):
    def done(self, works):
        """Which delays do, all Tables tried."""
        found = {}
        for delays in every_delays(works):
            sight = {name: (delay, delay) for name, delay in zip(works.panel.inputs, delays)}
            found[delays] = 0 in Rounds(works.with_panel(works.panel.with_sight(sight))).good()
        return found

    def some(self):
        yield from works_with_two()
        for seed in range(40):
            yield works_by(seed)

    def test_all_delays(self):
        kinds = set()
        for works in self.some():
            done = self.done(works)
            greatest = [
                delays
                for delays in done
                if done[delays] and not any(done[more] for more in done if more != delays and at_most(delays, more))
            ]
            least = [
                delays
                for delays in done
                if not done[delays] and all(done[less] for less in done if less != delays and at_most(less, delays))
            ]
            self.same(greatest_delays(works), sorted(greatest))
            self.same(least_delays(works), sorted(least))
            kinds.add((len(greatest), len(least)))
            for delays in done:
                self.assertIs(lasts(with_delays(works, delays)), done[delays])
                self.assertEqual(done[delays], any(at_most(delays, more) for more in greatest))
                self.assertEqual(not done[delays], any(at_most(less, delays) for less in least))
                for less in every_delays(works):
                    self.assertTrue(done[less] or not done[delays] or not at_most(less, delays))
        self.assertTrue({(1, 0), (0, 1), (1, 1), (2, 1), (1, 2)} <= kinds, kinds)

    def test_with_delays(self):
        works = Works(Panel(["a", "b"], 1, {"a": (0, 2), "b": (1, 1)}, 2), CASES, RULES[4])
        found = with_delays(works, (2, 0))
        self.assertTrue(found == works.with_panel(Panel(["a", "b"], 1, {"a": (2, 2), "b": (0, 0)}, 2)))
        self.same(found.panel.delays, ((2, 2), (0, 0)))
        for delays in (*JUNK, (0,), [0, 0], (0, 3), (-1, 0), (True, 0), (0, False), (0, 0, 0), (0, None)):
            self.refused(BadDelays, with_delays, works, delays)
            self.refused(BadWorks, with_delays, EXACT, delays, part=None)

    def test_slip_stays(self):
        rule = ("x", ALWAYS, ((), ("first", ("b",), 0, 1)))
        for slip, wanted in ((0, [(1,)]), (1, [(0,)]), (2, [])):
            works = Works(Panel(["b"], 3, None, slip), [], [rule])
            self.same(greatest_delays(works), wanted)
            self.same(least_delays(works), [(1 - slip + 1,)])

    def test_hundred(self):
        """Two inputs and length 8 are 100 delays; three inputs and length 3 are 125."""
        rule = ("x", ALWAYS, ((), ("first", ("a",), 0, 3)))
        works = Works(Panel(["a", "b"], 8, None, 0), [], [rule])
        self.same(greatest_delays(works), [(3, 9)])
        self.same(least_delays(works), [(4, 0)])
        self.same(least_seen(works), [("a",)])
        three = Works(Panel(["a", "b", "c"], 3, None, 0), [], [rule])
        for function in (greatest_delays, least_delays, least_seen):
            self.refused(TooMany, function, three, most=100)
            self.refused(BadWorks, function, EXACT, part=None)
            self.assertIsInstance(function(Works(Panel(["a", "b", "c"], 2, None, 0), [], [rule])), list)


class Seen(Case):
    def test_all_lots(self):
        kinds = set()
        for works in works_with_two():
            inputs = works.panel.inputs
            done = {}
            for many in range(len(inputs) + 1):
                for lot in itertools.combinations(inputs, many):
                    sight = {name: (0, 0) if name in lot else (works.panel.length + 1,) * 2 for name in inputs}
                    done[lot] = 0 in Rounds(works.with_panel(works.panel.with_sight(sight))).good()
            wanted = [lot for lot in done if done[lot] and not any(done[less] for less in done if set(less) < set(lot))]
            self.same(least_seen(works), sorted(wanted))
            kinds.add(tuple(sorted(wanted)))
        self.assertTrue({((),), (("b",),), (("a", "b"),), (("a",), ("b",)), ()} <= kinds, kinds)

    def test_inputs_that_no_rule_speaks_of(self):
        rule = ("x", ALWAYS, ((), ("first", ("b",), 0, 0)))
        works = Works(Panel(["a", "b", "c"], 2, None, 0), [], [rule])
        self.same(least_seen(works), [("b",)])
        self.same(least_seen(works.without("x")), [()])
        self.same(greatest_delays(works), [(3, 0, 3)])
        self.same(least_delays(works), [(0, 1, 0)])

    def test_not_seen_is_later_than_the_end(self):
        """Whoever hears of b as late as the last moment hears of it at 0 alone, and that would be enough."""
        rules = [
            ("x", ALWAYS, ((("gap", "b", "start", 0),), ("first", ("start",), 2, 2))),
            ("y", ALWAYS, ((("gap", "start", "b", 1),), ("never",))),
            ("z", ALWAYS, ((("silent", "b"),), ("never",))),
        ]
        works = Works(Panel(["b"], 2, None, 0), [], rules)
        self.same((greatest_delays(works), least_delays(works)), ([(2,)], [(3,)]))
        self.same(least_seen(works), [("b",)])

    def test_one_of_two(self):
        """Whoever sees either input can take the other one to ring with it."""
        asks = ((("rings", "a"), ("rings", "b")), ("first", ("start",), 2, 2))
        quiet = [((("silent", name),), ("never",)) for name in ("a", "b")]
        works = Works(Panel(["a", "b"], 2, None, 0), [], [("x", ALWAYS, asks)])
        self.same(least_seen(works), [()])
        both = works.with_rule(("y", ALWAYS, quiet[0])).with_rule(("z", ALWAYS, quiet[1]))
        self.same(least_seen(both), [("a", "b")])
        either = Works(Panel(["a", "b"], 2, None, 0), [], [("x", ALWAYS, TOGETHER)])
        self.same(greatest_delays(either), [(0, 3), (3, 0)])
        self.same(least_seen(either), [("a",), ("b",)])


class Slips(Case):
    def test_greatest_slip(self):
        found = set()
        for seed in range(60):
            works = works_by(seed)
            done = [slip for slip in range(3) if 0 in Rounds(works.with_panel(works.panel.with_slip(slip))).good()]
            wanted = max(done, default=None)
            self.assertEqual(done, list(range(len(done))))
            self.same(greatest_slip(works), wanted)
            found.add(wanted)
        self.assertEqual(found, {None, 0, 1, 2})

    def test_by_hand(self):
        self.same((greatest_slip(WORKS), greatest_slip(LOST)), (self.slip_of(WORKS), self.slip_of(LOST)))
        for high in range(4):
            works = Works(EXACT, [], [("x", ALWAYS, ((), ("first", ("b",), 0, high)))])
            self.same(greatest_slip(works), min(high, 2))
        self.assertIsNone(greatest_slip(Works(EXACT, [], [("x", ALWAYS, ((), ("first", ("b",), -1, -1)))])))

    def slip_of(self, works):
        done = [slip for slip in range(3) if 0 in good_modes(works.with_panel(works.panel.with_slip(slip)))]
        return max(done, default=None)

    def test_too_many(self):
        """With the slip 2: 100 rows with 6 delays are 1800 environments, with 7 they are 2100."""
        fits = Panel(["a", "b"], 8, {"a": (0, 2), "b": (0, 1)}, 0)
        self.same(greatest_slip(Works(fits, [], [])), 2)
        many = Panel(["a", "b"], 8, {"a": (0, 6), "b": (0, 0)}, 0)
        self.refused(TooMany, greatest_slip, Works(many, [], []), most=2000)
        self.refused(BadWorks, greatest_slip, None, part=None)


if __name__ == "__main__":
    unittest.main()
