"""Points 150 and 151: lots of rules, histories of changes, and joins."""

import functools
import itertools
import random
import unittest

from roundpromises.books import (
    can_keep,
    first_broken,
    greatest_lots,
    history,
    joined,
    least_drops,
    least_quarrels,
)
from roundpromises.errors import BadCases, BadChanges, BadLot, BadPanel, BadWorks, Clash, OtherWorks, TooMany
from roundpromises.ever import lasts
from roundpromises.forms import ALWAYS
from roundpromises.sights import Panel
from roundpromises.works import Works
from tests.calls_works import CASES, EXACT, LOST, SOON, STILL, VAGUE, WORKS
from tests.helpers import JUNK, Case
from tests.small import ANY, BEFORE_LAST_A, BEHIND_A, PROMISES, Rounds, works_by

NAMES = ("m", "c", "x", "aa", "b", "z")
SMALL_FORMS = (ALWAYS, BEHIND_A, ("not", BEHIND_A), ("empty",), ("not", ("empty",)), BEFORE_LAST_A)


def six_rules(seed, most=6):
    """A works with up to six rules, whose names do not stand in ascending order."""
    chance = random.Random(seed)
    panel = Panel(["b"], 1, {"b": (0, chance.randint(0, 2))}, chance.choice((0, 0, 1)))
    rules = [(name, chance.choice(SMALL_FORMS), chance.choice(PROMISES)) for name in NAMES[: chance.randint(0, most)]]
    return Works(panel, works_by(seed).cases, rules) if works_by(seed).letters[0] == "a" else six_rules(seed + 1000)


def all_lots(works):
    return [lot for many in range(len(works.names) + 1) for lot in itertools.combinations(works.names, many)]


def is_good(works):
    """Whether mode 0 is good, from all Tables."""
    return 0 in Rounds(works).good()


@functools.lru_cache(None)
def judged():
    """Works and the dict from all their lots to whether they can be kept."""
    found = []
    for seed in range(40):
        works = six_rules(seed, most=6 if seed < 8 else 4)
        kept = {}
        for lot in all_lots(works):
            kept[lot] = is_good(Works(works.panel, works.cases, [rule for rule in works.rules if rule[0] in lot]))
        found.append((works, kept))
    return found


class Lots(Case):
    def test_against_all_lots(self):
        many = {"one": 0, "more": 0}
        for works, kept in judged():
            for lot, wanted in kept.items():
                self.assertIs(can_keep(works, lot), wanted)
            good = [lot for lot in kept if kept[lot]]
            bad = [lot for lot in kept if not kept[lot]]
            greatest = [lot for lot in good if not any(set(lot) < set(other) for other in good)]
            quarrels = [lot for lot in bad if not any(set(other) < set(lot) for other in bad)]
            self.same(greatest_lots(works), sorted(greatest))
            self.same(least_quarrels(works), sorted(quarrels))
            drops = [lot for lot in kept if kept[tuple(name for name in works.names if name not in lot)]]
            least = [lot for lot in drops if not any(set(other) < set(lot) for other in drops)]
            self.same(least_drops(works), sorted(least))
            many["more" if len(greatest) > 1 else "one"] += 1
            for lot in kept:
                self.assertIs(lot in drops, all(set(lot) & set(quarrel) for quarrel in quarrels))
                self.assertIs(lot in bad, all(set(lot) & set(drop) for drop in least))
        self.assertGreater(min(many.values()), 8)

    def test_fewer_rules_never_hurt(self):
        for works, kept in judged():
            for lot, other in itertools.product(kept, repeat=2):
                self.assertTrue(kept[lot] or not kept[other] or not set(lot) <= set(other))

    def test_by_hand(self):
        self.same((greatest_lots(WORKS), least_quarrels(WORKS), least_drops(WORKS)), ([("soon", "still")], [], [()]))
        self.same(greatest_lots(LOST), [("soon",), ("still",)])
        self.same(least_quarrels(LOST), [("soon", "still")])
        self.same(least_drops(LOST), [("soon",), ("still",)])
        self.same([can_keep(LOST, lot) for lot in ((), ("soon",), ("soon", "still"))], [True, True, False])
        free = Works(EXACT, CASES, [])
        self.same((greatest_lots(free), least_quarrels(free), least_drops(free)), ([()], [], [()]))
        self.assertIs(can_keep(free, ()), True)

    def test_rules_that_none_keeps(self):
        never, must = ((), ("never",)), ((), ("first", ("start",), 0, 0))
        lost = ((), ("first", ("start",), 8, 8))
        rules = [("z", ALWAYS, never), ("b", ALWAYS, must), ("a", ALWAYS, lost)]
        works = Works(EXACT.with_slip(0), [], rules)
        self.same(greatest_lots(works), [("b",), ("z",)])
        self.same(least_quarrels(works), [("a",), ("z", "b")])
        self.same(least_drops(works), [("b", "a"), ("z", "a")])
        # Both orders: ascending as strings, the names in the order of the rules.
        self.same(can_keep(works, ("z", "b")), False)
        self.refused(BadLot, can_keep, works, ("b", "z"))

    def test_bad_lots(self):
        for lot in (
            *[thing for thing in JUNK if thing != ()],
            ["soon"],
            ["soon", "still"],
            ("still", "soon"),
            ("soon", "soon"),
            ("soon", "none"),
            ("none",),
            (None,),
            (1,),
            (["soon"],),
            ("soon", ("still",)),
            {"soon": 1},
            "soon",
        ):
            self.refused(BadLot, can_keep, WORKS, lot)
        for lot in ((), ("soon",), ("still",), ("soon", "still")):
            self.assertIs(can_keep(WORKS, lot), True)
        for thing in JUNK:
            self.refused(BadWorks, can_keep, thing, None, part=None)
            for function in (greatest_lots, least_quarrels, least_drops):
                self.refused(BadWorks, function, thing, part=None)


def put(name, form=ALWAYS, promise=((), ("never",))):
    return ("put", (name, form, promise))


class History(Case):
    def test_changes_one_by_one(self):
        for seed in range(60):
            chance = random.Random(seed)
            panel, cases = works_by(seed).panel, works_by(seed).cases
            rules, changes, wanted = [], [], []
            for _ in range(chance.randint(0, 12)):
                names = [rule[0] for rule in rules]
                if names and chance.random() < 0.3:
                    name = chance.choice(names)
                    changes.append(("drop", name))
                    rules = [rule for rule in rules if rule[0] != name]
                else:
                    rule = (chance.choice("xyz"), chance.choice(SMALL_FORMS[:3]), chance.choice(PROMISES))
                    changes.append(("put", rule))
                    if rule[0] in names:
                        rules = [rule if old[0] == rule[0] else old for old in rules]
                    else:
                        rules = rules + [rule]
                wanted.append(Works(panel, cases, rules) if not needs_a(rules) or "a" in letters(cases) else None)
            found = history(panel, cases, changes)
            self.assertEqual(len(found), len(wanted))
            self.assertTrue(all(one == other for one, other in zip(found, wanted)))
            broken = None
            for at in range(len(wanted)):
                if not any(is_good(works) for works in wanted[at:]):
                    broken = at
                    break
            self.same(first_broken(panel, cases, changes), broken)

    def test_by_hand(self):
        self.same(history(EXACT, CASES, []), [])
        self.assertIsNone(first_broken(EXACT, CASES, []))
        told = history(VAGUE, CASES, [("put", SOON), ("put", STILL), ("drop", "soon"), ("put", SOON)])
        self.same([works.names for works in told], [("soon",), ("soon", "still"), ("still",), ("still", "soon")])
        self.same([lasts(works) for works in told], [True, False, True, False])
        self.same(first_broken(VAGUE, CASES, [("put", SOON), ("put", STILL), ("drop", "soon"), ("put", SOON)]), 3)
        self.same(first_broken(VAGUE, CASES, [("put", SOON), ("put", STILL), put("z"), put("c")]), 1)
        self.assertIsNone(first_broken(VAGUE, CASES, [("put", SOON), ("put", STILL), ("drop", "soon")]))
        self.same(first_broken(EXACT, [], [put("x"), put("y", ALWAYS, ((), ("first", ("start",), 0, 0)))]), 1)
        self.same(first_broken(EXACT, [], [put("y", ALWAYS, ((), ("first", ("start",), 8, 8)))]), 0)

    def test_a_put_of_a_name_that_is_there_keeps_its_place(self):
        told = history(EXACT, CASES, [put("x"), put("y"), put("x", ("empty",)), ("drop", "x"), put("x")])
        self.same([works.names for works in told[2:]], [("x", "y"), ("y",), ("y", "x")])
        self.same(told[2].rules[0][1], ("empty",))

    def test_twelve_and_thirteen_changes(self):
        changes = [put("x"), ("drop", "x")] * 6
        self.same(len(history(EXACT, CASES, changes)), 12)
        self.same(len(history(EXACT, CASES, tuple(changes))), 12)
        for function in (history, first_broken):
            self.refused(BadChanges, function, EXACT, CASES, changes + [put("x")], at=None)
            self.refused(BadChanges, function, EXACT, CASES, changes + [None], at=None)

    def test_changes_that_are_none(self):
        rule = ("x", ALWAYS, ((), ("never",)))
        for change in (
            *JUNK,
            ["put", rule],
            ("put",),
            ("put", rule, 0),
            ("put", list(rule)),
            ("put", rule[:2]),
            ("put", ("out", *rule[1:])),
            ("put", ("x", ALWAYS, ((("rings", "c"),), ("never",)))),
            ("put", ("x", ALWAYS, ((("rings", "out"),), ("never",)))),
            ("put", ("x", ("one", "z"), ((), ("never",)))),
            ("put", ("x", ["any"], ((), ("never",)))),
            ("put", None),
            ("put", "x"),
            ("drop", "x"),
            ("drop", None),
            ("drop", rule),
            ("drop", ("y",)),
            ("drop", ["y"]),
            ("keep", rule),
            (["put"], rule),
            (None, rule),
        ):
            for ahead in ([], [put("y")], [put("y"), put("z"), ("drop", "z")]):
                for function in (history, first_broken):
                    self.refused(BadChanges, function, EXACT, CASES, ahead + [change, None], at=len(ahead))
        for changes in (None, True, 0, "put", {}, {0: put("x")}):
            self.refused(BadChanges, history, EXACT, CASES, changes, at=None)

    def test_changes_that_cannot_be_done(self):
        many = [put(name) for name in "abcdef"]
        self.same(len(history(EXACT, CASES, many)[-1].rules), 6)
        self.refused(BadChanges, history, EXACT, CASES, many + [put("g")], at=6)
        self.same(history(EXACT, CASES, many + [put("f", ("empty",))])[-1].rules[5][1], ("empty",))
        self.same(len(history(EXACT, CASES, many + [("drop", "a"), put("g")])), 8)
        self.refused(BadChanges, history, EXACT, CASES, [put("x"), ("drop", "x"), ("drop", "x"), None], at=2)
        count = ANY
        for _ in range(4):
            count = ("then", count, count)
        sixteen, two = ("many", count), ("many", ("then", ("one", "x"), ("one", "x")))
        self.same(len(history(EXACT, CASES, [put("x", sixteen)])[0]), 16)
        self.refused(BadChanges, history, EXACT, CASES, [put("x", sixteen), put("y", two), None], at=1)
        self.same(len(history(EXACT, CASES, [put("x", sixteen), put("x", two)])[1]), 3)

    def test_order_of_errors(self):
        many = Panel(["b", "c"], 8, {"b": (0, 9), "c": (0, 2)}, 0)
        for function in (history, first_broken):
            for thing in JUNK[:-1]:
                self.refused(BadPanel, function, thing, None, None, part=None)
            self.refused(BadPanel, function, WORKS, None, None, part=None)
            for cases in (None, {}, [("out", ())], [("a", (("rings", "c"),))], [("a", [])], [("a", ())] * 2):
                self.refused(BadCases, function, EXACT, cases, None)
            self.refused(BadCases, function, many, None, None)
            self.refused(TooMany, function, many, CASES, None, most=2000)
            self.refused(BadChanges, function, EXACT, CASES, None, at=None)


def needs_a(rules):
    return any("a" in str(form) for _, form, _ in rules)


def letters(cases):
    return [letter for letter, _ in cases]


class Joins(Case):
    def rules(self, chance):
        told = {
            name: (chance.choice((ALWAYS, ("empty",), ("any",))), chance.choice(PROMISES[:2]))
            for name in chance.sample("abcdxyz", chance.randint(0, 4))
        }
        return told

    def vary(self, told, chance):
        """Some rules dropped, changed, added, and the order another one."""
        found = {}
        for name in chance.sample(sorted(told), len(told)):
            kind = chance.choice("keep keep keep keep drop change".split())
            if kind == "keep":
                found[name] = told[name]
            elif kind == "change":
                found[name] = (chance.choice((ALWAYS, ("empty",))), chance.choice(PROMISES[:2]))
        if chance.random() < 0.5:
            found.setdefault(chance.choice("abcdxyz"), (ALWAYS, chance.choice(PROMISES[:2])))
        return found

    def works(self, told):
        return Works(EXACT, [], [(name, *pair) for name, pair in told.items()])

    def test_against_the_words_of_the_document(self):
        results = []
        for seed in range(600):
            chance = random.Random(seed)
            base = self.rules(chance)
            one, other = self.vary(base, chance), self.vary(base, chance)
            wanted, clashes = {}, []
            for name in [*base, *one, *other]:
                has = [told.get(name) for told in (base, one, other)]
                if has[1] == has[2]:
                    wanted[name] = has[1]
                elif has[0] in has[1:]:
                    wanted[name] = has[2] if has[0] == has[1] else has[1]
                else:
                    clashes.append(name)
            args = [self.works(told) for told in (base, one, other)]
            if clashes:
                self.refused(Clash, joined, *args, name=min(clashes))
                results.append("clash")
                continue
            left = {name: pair for name, pair in wanted.items() if pair is not None}
            if len(left) > 6:
                self.refused(BadWorks, joined, *args, part="rules")
                results.append("many")
                continue
            order = [name for name in base if name in left]
            order += [name for name in one if name in left and name not in order]
            order += [name for name in other if name in left and name not in order]
            self.assertTrue(joined(*args) == self.works({name: left[name] for name in order}))
            results.append("joined" if order != list(base) else "same")
        self.assertGreater(min(results.count(told) for told in ("clash", "joined", "same")), 20)

    def test_by_hand(self):
        def works(*rules):
            return Works(EXACT, CASES, rules)

        new = ("soon", ALWAYS, ((), ("never",)))
        base = works(SOON, STILL)
        self.assertTrue(joined(base, works(STILL), works(SOON)) == works())
        self.assertTrue(joined(base, works(STILL), works(STILL)) == works(STILL))
        self.assertTrue(joined(base, works(new, STILL), works(STILL, new)) == works(new, STILL))
        self.assertTrue(joined(base, base, base) == base)
        self.assertTrue(joined(base, works(STILL, SOON), base) == base)
        self.assertTrue(joined(works(), works(SOON), works(STILL)) == base)
        self.assertTrue(joined(works(), works(STILL), works(SOON)) == works(STILL, SOON))
        self.assertTrue(joined(works(STILL), works(STILL, SOON), works()) == works(SOON))
        # A rule that one dropped and the other changed.
        self.refused(Clash, joined, base, works(STILL), works(new, STILL), name="soon")
        self.refused(Clash, joined, base, works(new, STILL), works(STILL), name="soon")
        self.refused(Clash, joined, works(), works(SOON), works(new), name="soon")
        never = ((), ("never",))
        one = works(("z", ALWAYS, never), ("b", ALWAYS, never), ("a", ALWAYS, never))
        other = works(("z", ("any",), never), ("b", ("any",), never), ("a", ALWAYS, never))
        self.refused(Clash, joined, works(), one, other, name="b")

    def test_errors_of_works(self):
        never = ((), ("never",))
        one, other = [Works(EXACT, [], [(name, ALWAYS, never) for name in names]) for names in ("abcd", "efg")]
        self.refused(BadWorks, joined, Works(EXACT, [], []), one, other, part="rules")
        self.assertTrue(len(joined(Works(EXACT, [], []), one, other.without("g")).rules) == 6)
        count = ANY
        for _ in range(3):
            count = ("then", count, count)
        eight, three = ("many", count), ("many", ("then", ANY, ("then", ANY, ANY)))
        one, other = [Works(EXACT, [], [(name, form, never)]) for name, form in (("x", eight), ("y", three))]
        self.refused(TooMany, joined, Works(EXACT, [], []), one, other, most=16)

    def test_errors(self):
        for thing in JUNK:
            self.refused(BadWorks, joined, thing, None, None, part=None)
            self.refused(BadWorks, joined, WORKS, thing, None, part=None)
            self.refused(BadWorks, joined, WORKS, LOST, thing, part=None)
        for other in (LOST, Works(EXACT, [], []), WORKS.with_panel(EXACT.with_slip(0))):
            self.refused(OtherWorks, joined, WORKS, WORKS, other)
            self.refused(OtherWorks, joined, WORKS, other, WORKS)
            self.refused(OtherWorks, joined, other, WORKS, WORKS)

    def test_each_least_quarrel_of_a_join_has_rules_of_both(self):
        tried = 0
        for works, kept in judged():
            for seed in range(12):
                chance = random.Random(seed)
                lots = [lot for lot in kept if kept[lot]]
                one, other = [
                    Works(works.panel, works.cases, [rule for rule in works.rules if rule[0] in lot])
                    for lot in (chance.choice(lots), chance.choice(lots))
                ]
                base = Works(works.panel, works.cases, [rule for rule in one.rules if rule in other.rules])
                found = joined(base, one, other)
                if not lasts(found):
                    for quarrel in least_quarrels(found):
                        tried += 1
                        rules = [rule for rule in found.rules if rule[0] in quarrel]
                        self.assertTrue(any(rule not in one.rules for rule in rules))
                        self.assertTrue(any(rule not in other.rules for rule in rules))
        self.assertGreater(tried, 20)


if __name__ == "__main__":
    unittest.main()
