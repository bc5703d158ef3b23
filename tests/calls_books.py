"""For all functions of shocks to bench: one call that goes well, and which error comes first."""

from roundpromises.bench import (
    first_wrong_try,
    may_answer,
    next_try,
    surely_breaks,
    surely_keeps,
    tries_needed,
)
from roundpromises.books import (
    can_keep,
    first_broken,
    greatest_lots,
    history,
    joined,
    least_drops,
    least_quarrels,
)
from roundpromises.carries import carries, escape, follower, is_play
from roundpromises.forms import ALWAYS
from roundpromises.shocks import armour, bears, breach, is_armour, is_breach
from roundpromises.sights import Panel
from roundpromises.tables import constant
from roundpromises.works import Works
from tests.calls import TASK
from tests.calls_works import CASES, EXACT, LOST, MORE, SOON, STILL, VAGUE, WORKS, WORKS_FIRST

# x: rung one behind b, or later; then b must be met just when it rings, which who hears late does not.
LAX = ((("gap", "b", "start", -1),), ("first", ("b",), 0, 1))
STRICT = ((("gap", "b", "start", -1),), ("first", ("b",), 0, 0))
CALM = Works(
    EXACT.with_slip(0),
    CASES,
    [("lax", ALWAYS, LAX), ("strict", ("then", ALWAYS, ("then", ("one", "x"), ALWAYS)), STRICT)],
)
WIDE = Panel(["b"], 2, {"b": (0, 1)}, 0)
PLAY = [(((0,), (0,), 1), 1, "x"), (((None,), (0,), 0), None, "other")]
CHANGES = [("put", SOON), ("put", STILL), ("drop", "soon"), ("put", SOON)]
TRIES = [((0,), 1), ((2,), 2)]

CALLS = [
    (bears, CALM, WIDE, 0),
    (armour, CALM, WIDE),
    (is_armour, CALM, WIDE, armour(CALM, WIDE)),
    (breach, CALM, WIDE, 2),
    (is_breach, CALM, WIDE, 2, breach(CALM, WIDE, 2)),
    (is_play, WORKS, PLAY),
    (carries, MORE, WORKS),
    (escape, MORE, WORKS),
    (follower, WORKS, PLAY),
    (can_keep, LOST, ("soon",)),
    (greatest_lots, LOST),
    (least_quarrels, LOST),
    (least_drops, LOST),
    (history, VAGUE, CASES, CHANGES),
    (first_broken, VAGUE, CASES, CHANGES),
    (joined, MORE, WORKS, WORKS.without("soon")),
    (first_wrong_try, 1, 2, TRIES + [((1,), 2)]),
    (may_answer, 1, 2, TRIES, (1,)),
    (next_try, 1, 2, TRIES),
    (tries_needed, constant(1, 2, 1)),
    (surely_keeps, TASK, TRIES),
    (surely_breaks, TASK, TRIES),
]

CALM_FIRST = ("works", CALM, "BadWorks", None)
WIDE_NEXT = ("wide", WIDE, "BadWide")
THING = ("thing", {}, None)
ONE_FIRST = [("one", MORE, "BadWorks", None), ("other", WORKS, "BadWorks", None)]
CHANGED = [("panel", VAGUE, "BadPanel", None), ("cases", CASES, "BadCases"), ("changes", CHANGES, "BadChanges", None)]
SIZED = [("size", 1, "BadSize"), ("length", 2, "BadLength"), ("tries", TRIES, "BadTries", None)]
TRIED = [("task", TASK, "BadTask", None), ("tries", TRIES, "BadTries", None)]
ORDERED = [
    (bears, CALM_FIRST, WIDE_NEXT, ("mode", 1, "BadMode")),
    (armour, CALM_FIRST, WIDE_NEXT),
    (is_armour, CALM_FIRST, WIDE_NEXT, THING),
    (breach, CALM_FIRST, WIDE_NEXT, ("rounds", 2, "BadRounds")),
    (is_breach, CALM_FIRST, WIDE_NEXT, ("rounds", 2, "BadRounds"), THING),
    (is_play, WORKS_FIRST, THING),
    (carries, *ONE_FIRST),
    (escape, *ONE_FIRST),
    (follower, WORKS_FIRST, ("play", PLAY, "BadPlay")),
    (can_keep, WORKS_FIRST, ("lot", ("soon",), "BadLot")),
    (greatest_lots, WORKS_FIRST),
    (least_quarrels, WORKS_FIRST),
    (least_drops, WORKS_FIRST),
    (history, *CHANGED),
    (first_broken, *CHANGED),
    (joined, ("base", MORE, "BadWorks", None), *ONE_FIRST),
    (first_wrong_try, *SIZED),
    (may_answer, *SIZED, ("arrivals", (0,), "BadRow")),
    (next_try, *SIZED),
    (tries_needed, ("table", constant(1, 2, 1), "BadTable", None)),
    (surely_keeps, *TRIED),
    (surely_breaks, *TRIED),
]
