"""For all functions of machines to ledgers: one call that goes well, and which error comes first."""

from roundpromises.chances import (
    account,
    best_weight,
    first_loss,
    is_account,
    is_plan,
    machine_for,
    plan,
    weight_with,
    whole_weight,
)
from roundpromises.corners import greatest_delays, greatest_slip, least_delays, least_seen, with_delays
from roundpromises.forms import ALWAYS
from roundpromises.learning import (
    can_learn,
    first_guess,
    greatest_guesses,
    guess_left,
    is_lore,
    is_riddle,
    is_safe,
    least_guesses,
    lore,
    riddle,
)
from roundpromises.ledgers import (
    blind_spot,
    can_do_with,
    coarsest_splits,
    course_to,
    finest_gaps,
    is_blind_spot,
    is_safe_view,
    is_wit,
    ledger_of,
    view_left,
    wit,
)
from roundpromises.machines import (
    Machine,
    breaking,
    is_fine_with,
    keeps_for_ever,
    least_machine,
    led,
    machine_of,
    machines_alike,
    parting_course,
    stock_with,
)
from roundpromises.sights import Panel
from roundpromises.tables import constant
from roundpromises.works import Works
from tests.calls_works import ENVIRONMENT, GAINS, LOST, MARKS, VAGUE, WORKS, WORKS_FIRST

LOOP = {"x": 0, "y": 0, "other": 0}
NEVER, LATE = constant(1, 2, None), constant(1, 2, 2)
STATES = [(LATE, {"x": 0, "y": 1, "other": 0}), (NEVER, LOOP)]
MACHINE = Machine(1, 2, ("x", "y", "other"), STATES)
CALM = Machine(1, 2, ("x", "y", "other"), [(NEVER, LOOP)])
KEEPS = machine_of(WORKS)
WEIGHTS = {(0,): 1, (1,): 0, (2,): 3, (None,): 1}
# Who may hear of b one late can learn whether it is; what is asked from the second round on hangs on it.
JUST = ((("gap", "b", "start", -1),), ("first", ("b",), 1, 1))
SEEN_B = [("x", (("rings", "b"),))]
LEARNT = Works(VAGUE.with_slip(0), SEEN_B, [("just", ("then", ("one", "x"), ALWAYS), JUST)])
RIDDLED = Works(VAGUE.with_slip(0), SEEN_B, [("just", ("not", ("empty",)), JUST)])
GUESS = ((0,), (1,))
# b is not seen; behind x the output must ring, behind y it must not.
BLIND = Works(
    Panel(["b"], 1, {"b": (2, 2)}, 0),
    [("x", (("gap", "b", "start", 0),)), ("y", (("rings", "b"),))],
    [
        ("must", ("then", ALWAYS, ("one", "x")), ((), ("first", ("start",), 0, 0))),
        ("not", ("then", ALWAYS, ("one", "y")), ((), ("never",))),
    ],
)
LEDGER = {"x": "p", "y": "q", "other": "q"}
MIXED = {"x": "p", "y": "p", "other": "q"}
SPLIT = (("x",), ("y", "other"))
THINGS = [MACHINE, LEARNT, BLIND]

CALLS = [
    (Machine, 1, 2, ("x", "y", "other"), STATES),
    (MACHINE.state_behind, ("x", "y")),
    (MACHINE.table_behind, ("x", "y")),
    (machines_alike, MACHINE, CALM),
    (parting_course, MACHINE, CALM),
    (least_machine, MACHINE),
    (led, WORKS, MACHINE, [ENVIRONMENT, ENVIRONMENT]),
    (keeps_for_ever, WORKS, KEEPS),
    (breaking, WORKS, MACHINE),
    (machine_of, WORKS),
    (is_fine_with, WORKS, MARKS, KEEPS),
    (stock_with, WORKS, GAINS, KEEPS),
    (whole_weight, WORKS, WEIGHTS, 3),
    (best_weight, LOST, WEIGHTS, 0, 3),
    (plan, LOST, WEIGHTS, 2),
    (is_plan, LOST, WEIGHTS, 2, plan(LOST, WEIGHTS, 2)),
    (account, LOST, WEIGHTS, 2),
    (is_account, LOST, WEIGHTS, 2, account(LOST, WEIGHTS, 2)),
    (weight_with, WORKS, WEIGHTS, MACHINE, 3),
    (machine_for, LOST, WEIGHTS, 2),
    (first_loss, LOST, WEIGHTS, 0),
    (with_delays, WORKS, (1,)),
    (greatest_delays, WORKS),
    (least_delays, WORKS),
    (least_seen, WORKS),
    (greatest_slip, WORKS),
    (first_guess, LEARNT),
    (guess_left, LEARNT, GUESS, (0,), (1,)),
    (is_safe, LEARNT, 1, GUESS),
    (can_learn, LEARNT),
    (lore, LEARNT),
    (is_lore, LEARNT, lore(LEARNT)),
    (riddle, RIDDLED),
    (is_riddle, RIDDLED, riddle(RIDDLED)),
    (greatest_guesses, RIDDLED),
    (least_guesses, RIDDLED),
    (view_left, BLIND, MIXED, (0,), (None,), 0, "p"),
    (course_to, BLIND, MIXED, [((None,), 0, "p"), ((None,), 0, "q")], 0),
    (is_safe_view, BLIND, LEDGER, (0, 1)),
    (can_do_with, BLIND, LEDGER),
    (wit, BLIND, LEDGER),
    (is_wit, BLIND, LEDGER, wit(BLIND, LEDGER)),
    (blind_spot, BLIND, MIXED),
    (is_blind_spot, BLIND, MIXED, blind_spot(BLIND, MIXED)),
    (ledger_of, BLIND, SPLIT),
    (coarsest_splits, BLIND),
    (finest_gaps, BLIND),
]

MACHINE_NEXT = ("machine", MACHINE, "BadMachine", None)
WEIGHTS_NEXT = ("weights", WEIGHTS, "BadWeights")
ROUNDS_NEXT = ("rounds", 2, "BadRounds")
MODE_NEXT = ("mode", 1, "BadMode")
THING = ("thing", {}, None)
LEARNT_FIRST = ("works", LEARNT, "BadWorks", None)
BLIND_FIRST = ("works", BLIND, "BadWorks", None)
GUESS_NEXT = ("guess", GUESS, "BadGuess")
LEDGER_NEXT = ("ledger", LEDGER, "BadLedger")
ORDERED = [
    (
        Machine,
        ("size", 1, "BadMachine", "size"),
        ("length", 2, "BadMachine", "length"),
        ("letters", ("x", "y", "other"), "BadMachine", "letters"),
        ("states", STATES, "BadMachine", "states"),
    ),
    (MACHINE.state_behind, ("word", ("x",), "BadWord")),
    (MACHINE.table_behind, ("word", ("x",), "BadWord")),
    (machines_alike, ("one", MACHINE, "BadMachine", None), ("other", CALM, "BadMachine", None)),
    (parting_course, ("one", MACHINE, "BadMachine", None), ("other", CALM, "BadMachine", None)),
    (least_machine, MACHINE_NEXT),
    (led, WORKS_FIRST, MACHINE_NEXT, ("environments", [ENVIRONMENT], "BadEnvironment")),
    (keeps_for_ever, WORKS_FIRST, MACHINE_NEXT),
    (breaking, WORKS_FIRST, MACHINE_NEXT),
    (machine_of, WORKS_FIRST),
    (is_fine_with, WORKS_FIRST, ("marks", MARKS, "BadMarks"), MACHINE_NEXT),
    (stock_with, WORKS_FIRST, ("gains", GAINS, "BadGains"), MACHINE_NEXT),
    (whole_weight, WORKS_FIRST, WEIGHTS_NEXT, ROUNDS_NEXT),
    (best_weight, WORKS_FIRST, WEIGHTS_NEXT, MODE_NEXT, ROUNDS_NEXT),
    (plan, WORKS_FIRST, WEIGHTS_NEXT, ROUNDS_NEXT),
    (is_plan, WORKS_FIRST, WEIGHTS_NEXT, ROUNDS_NEXT, THING),
    (account, WORKS_FIRST, WEIGHTS_NEXT, ROUNDS_NEXT),
    (is_account, WORKS_FIRST, WEIGHTS_NEXT, ROUNDS_NEXT, THING),
    (weight_with, WORKS_FIRST, WEIGHTS_NEXT, MACHINE_NEXT, ROUNDS_NEXT),
    (machine_for, WORKS_FIRST, WEIGHTS_NEXT, ROUNDS_NEXT),
    (first_loss, WORKS_FIRST, WEIGHTS_NEXT, MODE_NEXT),
    (with_delays, WORKS_FIRST, ("delays", (1,), "BadDelays")),
    (greatest_delays, WORKS_FIRST),
    (least_delays, WORKS_FIRST),
    (least_seen, WORKS_FIRST),
    (greatest_slip, WORKS_FIRST),
    (first_guess, LEARNT_FIRST),
    (guess_left, LEARNT_FIRST, GUESS_NEXT, ("row", (0,), "BadRow"), ("arrivals", (1,), "BadRow")),
    (is_safe, LEARNT_FIRST, MODE_NEXT, GUESS_NEXT),
    (can_learn, LEARNT_FIRST),
    (lore, LEARNT_FIRST),
    (is_lore, LEARNT_FIRST, THING),
    (riddle, LEARNT_FIRST),
    (is_riddle, LEARNT_FIRST, THING),
    (greatest_guesses, LEARNT_FIRST),
    (least_guesses, LEARNT_FIRST),
    (
        view_left,
        BLIND_FIRST,
        LEDGER_NEXT,
        ("view", (0,), "BadView"),
        ("arrivals", (0,), "BadRow"),
        ("moment", 0, "BadMoment"),
        ("name", "p", "BadName"),
    ),
    (course_to, BLIND_FIRST, LEDGER_NEXT, ("seen", [], "BadSeen", None), MODE_NEXT),
    (is_safe_view, BLIND_FIRST, LEDGER_NEXT, ("view", (0,), "BadView")),
    (can_do_with, BLIND_FIRST, LEDGER_NEXT),
    (wit, BLIND_FIRST, LEDGER_NEXT),
    (is_wit, BLIND_FIRST, LEDGER_NEXT, THING),
    (blind_spot, BLIND_FIRST, LEDGER_NEXT),
    (is_blind_spot, BLIND_FIRST, LEDGER_NEXT, THING),
    (ledger_of, BLIND_FIRST, ("split", SPLIT, "BadSplit")),
    (coarsest_splits, BLIND_FIRST),
    (finest_gaps, BLIND_FIRST),
]
