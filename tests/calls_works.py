"""For all functions of works to stock: one call that goes well, and which error comes first."""

from roundpromises.again import can_cease, can_return, fine_modes, is_pit, is_staircase, pit, staircase
from roundpromises.ever import (
    doom,
    good_modes,
    is_doom,
    is_strategy,
    kept_task,
    keeps_round,
    lasts,
    late_strategy,
    rank,
    round_letter,
    strategy,
)
from roundpromises.forms import ALWAYS
from roundpromises.sights import Panel
from roundpromises.stock import is_larder, is_leak, is_ruin, larder, leak, least_stock, ruin, stock_for
from roundpromises.works import Works, parting_letters, same_plays, task_of

# x: rung at least one behind b, y: rung otherwise. Whoever hears of b at once can wait; who may hear of it one
# late cannot tell 1 from 2, and behind y nothing may ring.
CASES = [("x", (("gap", "b", "out", 1),)), ("y", (("rings", "out"),))]
SOON = ("soon", ALWAYS, ((("gap", "b", "start", -1),), ("first", ("b",), 0, 3)))
STILL = ("still", ("then", ALWAYS, ("one", "y")), ((), ("never",)))
EXACT = Panel(["b"], 2, None, 1)
VAGUE = Panel(["b"], 2, {"b": (0, 1)}, 1)
WORKS = Works(EXACT, CASES, [SOON, STILL])
LOST = Works(VAGUE, CASES, [SOON, STILL])
MORE = Works(EXACT, CASES, [SOON])
ENVIRONMENT = ((1,), (0,), 1)
MARKS = {"x": 2, "y": 1, "other": 0}
ODD = {"x": 1, "y": 3, "other": 1}
GAINS = {"x": -1, "y": 1, "other": 1}
LOSSES = {"x": -1, "y": 1, "other": 0}
THINGS = [WORKS, LOST]

CALLS = [
    (Works, EXACT, CASES, [SOON, STILL]),
    (WORKS.active, 1),
    (WORKS.ways, 1),
    (WORKS.mode_behind, ("x", "y")),
    (WORKS.word_to, 1),
    (WORKS.with_panel, VAGUE),
    (MORE.with_rule, STILL),
    (WORKS.without, "soon"),
    (task_of, WORKS, 1, ["y", "other"]),
    (same_plays, WORKS, MORE),
    (parting_letters, WORKS, MORE),
    (good_modes, WORKS),
    (rank, WORKS, 1),
    (lasts, WORKS),
    (kept_task, WORKS, 0),
    (strategy, WORKS),
    (late_strategy, WORKS),
    (is_strategy, WORKS, strategy(WORKS)),
    (doom, LOST),
    (is_doom, LOST, doom(LOST)),
    (round_letter, WORKS, ENVIRONMENT, 1),
    (keeps_round, WORKS, 1, ENVIRONMENT, 1),
    (fine_modes, WORKS, MARKS),
    (staircase, WORKS, MARKS),
    (is_staircase, WORKS, MARKS, staircase(WORKS, MARKS)),
    (pit, WORKS, ODD),
    (is_pit, WORKS, ODD, pit(WORKS, ODD)),
    (can_return, WORKS, ["other", "x"]),
    (can_cease, WORKS, ["x"]),
    (least_stock, WORKS, GAINS, 0),
    (stock_for, WORKS, LOSSES, 0, 7),
    (larder, WORKS, {"x": 1, "y": 1, "other": 0}),
    (is_larder, WORKS, {"x": 1, "y": 1, "other": 0}, larder(WORKS, {"x": 1, "y": 1, "other": 0})),
    (ruin, WORKS, LOSSES, 1),
    (is_ruin, WORKS, LOSSES, 1, ruin(WORKS, LOSSES, 1)),
    (leak, WORKS, LOSSES),
    (is_leak, WORKS, LOSSES, leak(WORKS, LOSSES)),
]

WORKS_FIRST = ("works", WORKS, "BadWorks", None)
MARKS_NEXT = ("marks", MARKS, "BadMarks")
GAINS_NEXT = ("gains", GAINS, "BadGains")
MODE_NEXT = ("mode", 1, "BadMode")
THING = ("thing", {}, None)
ORDERED = [
    (
        Works,
        ("panel", EXACT, "BadWorks", "panel"),
        ("cases", CASES, "BadWorks", "cases"),
        ("rules", [SOON], "BadWorks", "rules"),
    ),
    (WORKS.active, MODE_NEXT),
    (WORKS.ways, MODE_NEXT),
    (WORKS.mode_behind, ("word", ("x",), "BadWord")),
    (WORKS.word_to, MODE_NEXT),
    (WORKS.with_panel, ("panel", VAGUE, "BadWorks", "panel")),
    (MORE.with_rule, ("rule", STILL, "BadWorks", "rules")),
    (WORKS.without, ("name", "soon", "BadName")),
    (task_of, WORKS_FIRST, MODE_NEXT, ("barred", [], "BadBarred")),
    (same_plays, ("one", WORKS, "BadWorks", None), ("other", MORE, "BadWorks", None)),
    (parting_letters, ("one", WORKS, "BadWorks", None), ("other", MORE, "BadWorks", None)),
    (good_modes, WORKS_FIRST),
    (rank, WORKS_FIRST, MODE_NEXT),
    (lasts, WORKS_FIRST),
    (kept_task, WORKS_FIRST, MODE_NEXT),
    (strategy, WORKS_FIRST),
    (late_strategy, WORKS_FIRST),
    (is_strategy, WORKS_FIRST, THING),
    (doom, WORKS_FIRST),
    (is_doom, WORKS_FIRST, THING),
    (round_letter, WORKS_FIRST, ("environment", ENVIRONMENT, "BadEnvironment"), ("moment", 1, "BadMoment")),
    (
        keeps_round,
        WORKS_FIRST,
        MODE_NEXT,
        ("environment", ENVIRONMENT, "BadEnvironment"),
        ("moment", 1, "BadMoment"),
    ),
    (fine_modes, WORKS_FIRST, MARKS_NEXT),
    (staircase, WORKS_FIRST, MARKS_NEXT),
    (is_staircase, WORKS_FIRST, MARKS_NEXT, THING),
    (pit, WORKS_FIRST, MARKS_NEXT),
    (is_pit, WORKS_FIRST, MARKS_NEXT, THING),
    (can_return, WORKS_FIRST, ("letters", ["x"], "BadLetters")),
    (can_cease, WORKS_FIRST, ("letters", ["x"], "BadLetters")),
    (least_stock, WORKS_FIRST, GAINS_NEXT, MODE_NEXT),
    (stock_for, WORKS_FIRST, GAINS_NEXT, MODE_NEXT, ("rounds", 7, "BadRounds")),
    (larder, WORKS_FIRST, GAINS_NEXT),
    (is_larder, WORKS_FIRST, GAINS_NEXT, THING),
    (ruin, WORKS_FIRST, GAINS_NEXT, ("stock", 1, "BadStock")),
    (is_ruin, WORKS_FIRST, GAINS_NEXT, ("stock", 1, "BadStock"), THING),
    (leak, WORKS_FIRST, GAINS_NEXT),
    (is_leak, WORKS_FIRST, GAINS_NEXT, THING),
]
