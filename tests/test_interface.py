"""The interface: names, parameters, files, methods, and which module imports from which."""

import ast
import importlib
import inspect
import pathlib
import unittest

import roundpromises
from roundpromises.machines import Machine
from roundpromises.one import Task
from roundpromises.sights import Panel
from roundpromises.tables import Table, constant
from roundpromises.works import Works

FOLDER = pathlib.Path(roundpromises.__file__).parent
ORDER = ["errors", "rows", "terms", "promises", "sights", "tables", "one", "serving", "forms"]
ORDER += ["works", "ever", "again", "stock", "machines", "chances", "corners", "learning", "ledgers"]
ORDER += ["shocks", "carries", "books", "bench", "field", "plant", "journals", "texts", "desk"]
# Each further module, and the first module of the interface from which it does not import.
FURTHER = {"checks": "rows", "bits": "sights", "looks": "one", "readers": "rows", "modes": "forms", "ranks": "rows"}
FURTHER.update({"courses": "forms", "odds": "forms", "views": "forms", "strange": "forms"})
FURTHER.update({"stages": "again", "wording": "works"})
FUNCTIONS = {
    "rows": "is_row(thing, length) rows(size, length) first_of(row, places) last_of(row, places) "
    "latest_of(row, places) until(row, moment)",
    "terms": "is_condition(thing, names) holds(condition, times) is_cases(thing, names) letters_of(cases) "
    "letter_of(cases, times)",
    "promises": "is_promise(thing, inputs) asked(promise, inputs, row) allowed(promises, inputs, row) "
    "is_stronger(one, other, inputs, length) parting_row(one, other, inputs, length)",
    "sights": "is_environment(panel, thing) arrivals_of(panel, environment) many_environments(panel) "
    "environments(panel) look_alike(one, other, length, moment)",
    "tables": "constant(size, length, moment) sooner(one, other) later(one, other) rung(panel, table, environment)",
    "one": "is_right(task, environment, moment) good(task, arrivals) keeps(task, table) earliest(task) latest(task) "
    "had(task, arrivals) quarrel(task) is_quarrel(task, thing) against(task, quarrel, table) "
    "on_top(task, promise) tightest(task, condition, which, names)",
    "serving": "serves(one, other) are_even(one, other) translator(one, other) is_translator(one, other, thing) "
    "translated(one, other, translator, table) parting_promises(one, other) is_parting(one, other, thing)",
    "forms": "is_form(thing, letters) matches(form, word) form_behind(form, word) are_alike(one, other, letters) "
    "parting_word(one, other, letters)",
    "works": "task_of(works, mode, barred) same_plays(one, other) parting_letters(one, other)",
    "ever": "good_modes(works) rank(works, mode) lasts(works) kept_task(works, mode) strategy(works) "
    "late_strategy(works) is_strategy(works, thing) doom(works) is_doom(works, thing) "
    "round_letter(works, environment, moment) keeps_round(works, mode, environment, moment)",
    "again": "fine_modes(works, marks) staircase(works, marks) is_staircase(works, marks, thing) pit(works, marks) "
    "is_pit(works, marks, thing) can_return(works, letters) can_cease(works, letters)",
    "stock": "least_stock(works, gains, mode) stock_for(works, gains, mode, rounds) larder(works, gains) "
    "is_larder(works, gains, thing) ruin(works, gains, stock) is_ruin(works, gains, stock, thing) "
    "leak(works, gains) is_leak(works, gains, thing)",
    "machines": "machines_alike(one, other) parting_course(one, other) least_machine(machine) "
    "led(works, machine, environments) keeps_for_ever(works, machine) breaking(works, machine) machine_of(works) "
    "is_fine_with(works, marks, machine) stock_with(works, gains, machine)",
    "chances": "whole_weight(works, weights, rounds) best_weight(works, weights, mode, rounds) "
    "plan(works, weights, rounds) is_plan(works, weights, rounds, thing) account(works, weights, rounds) "
    "is_account(works, weights, rounds, thing) weight_with(works, weights, machine, rounds) "
    "machine_for(works, weights, rounds) first_loss(works, weights, mode)",
    "corners": "with_delays(works, delays) greatest_delays(works) least_delays(works) least_seen(works) "
    "greatest_slip(works)",
    "learning": "first_guess(works) guess_left(works, guess, row, arrivals) is_safe(works, mode, guess) "
    "can_learn(works) lore(works) is_lore(works, thing) riddle(works) is_riddle(works, thing) "
    "greatest_guesses(works) least_guesses(works)",
    "ledgers": "view_left(works, ledger, view, arrivals, moment, name) course_to(works, ledger, seen, mode) "
    "is_safe_view(works, ledger, view) can_do_with(works, ledger) wit(works, ledger) is_wit(works, ledger, thing) "
    "blind_spot(works, ledger) is_blind_spot(works, ledger, thing) ledger_of(works, split) coarsest_splits(works) "
    "finest_gaps(works)",
    "shocks": "bears(works, wide, mode) armour(works, wide) is_armour(works, wide, thing) "
    "breach(works, wide, rounds) is_breach(works, wide, rounds, thing)",
    "carries": "is_play(works, thing) carries(one, other) escape(one, other) follower(works, play)",
    "books": "can_keep(works, lot) greatest_lots(works) least_quarrels(works) least_drops(works) "
    "history(panel, cases, changes) first_broken(panel, cases, changes) joined(base, one, other)",
    "bench": "first_wrong_try(size, length, tries) may_answer(size, length, tries, arrivals) "
    "next_try(size, length, tries) tries_needed(table) surely_keeps(task, tries) surely_breaks(task, tries)",
    "field": "explains(panel, table, faults, seen) least_faults(panel, table, seen)",
    "journals": "picture(plant) journal_of(plant) first_wrong(works, thing) replayed(works, journal)",
    "texts": "works_text(works) read_works(text) form_text(form) read_form(text) table_text(table) read_table(text)",
}
CLASSES = {
    ("sights", "Panel"): [
        "__init__(self, inputs, length, sight, slip)",
        "with_sight(self, sight)",
        "with_slip(self, slip)",
        "__eq__(self, other)",
    ],
    ("tables", "Table"): [
        "__init__(self, size, length, answers)",
        "answers(self)",
        "answer(self, arrivals)",
        "__eq__(self, other)",
    ],
    ("one", "Task"): ["__init__(self, panel, cases, promises, barred)", "__eq__(self, other)"],
    ("works", "Works"): [
        "__init__(self, panel, cases, rules)",
        "__len__(self)",
        "active(self, mode)",
        "ways(self, mode)",
        "mode_behind(self, word)",
        "word_to(self, mode)",
        "with_panel(self, panel)",
        "with_rule(self, rule)",
        "without(self, name)",
        "__eq__(self, other)",
    ],
    ("machines", "Machine"): [
        "__init__(self, size, length, letters, states)",
        "__len__(self)",
        "state_behind(self, word)",
        "table_behind(self, word)",
        "__eq__(self, other)",
    ],
    ("plant", "Plant"): [
        "__init__(self, works)",
        "hear(self, name)",
        "ring(self)",
        "tick(self)",
        "close(self, row, rung)",
        "put(self, rule)",
        "drop(self, name)",
        "undo(self)",
        "works(self)",
        "past(self)",
        "mode(self)",
        "moment(self)",
        "heard(self)",
        "rung(self)",
        "book(self)",
        "broken(self)",
        "log(self)",
        "first(self)",
        "copy(self)",
        "tried(self, work)",
        "advice(self)",
        "is_sure(self)",
        "threat(self)",
        "is_threat(self, thing)",
        "lost_in(self)",
        "__len__(self)",
        "__eq__(self, other)",
    ],
    ("desk", "Desk"): ["__init__(self, text)", "say(self, line)"],
}


def parsed(name):
    return ast.parse((FOLDER / (name + ".py")).read_text())


class Interface(unittest.TestCase):
    def test_functions(self):
        for name, told in FUNCTIONS.items():
            module = importlib.import_module("roundpromises." + name)
            defined = {node.name for node in parsed(name).body if isinstance(node, ast.FunctionDef)}
            for wanted in told.replace(") ", ")\n").split("\n"):
                function = getattr(module, wanted.partition("(")[0])
                self.assertEqual(function.__name__ + str(inspect.signature(function)), wanted)
                self.assertIn(function.__name__, defined)

    def test_classes(self):
        for (name, kind), methods in CLASSES.items():
            found = getattr(importlib.import_module("roundpromises." + name), kind)
            body = [node for node in parsed(name).body if isinstance(node, ast.ClassDef) and node.name == kind]
            inside = {node.name for node in body[0].body if isinstance(node, ast.FunctionDef)}
            for wanted in methods:
                method = wanted.partition("(")[0]
                self.assertIn(method, inside)
                self.assertEqual(method + str(inspect.signature(vars(found)[method])), wanted)

    def test_attributes(self):
        panel = Panel(["a"], 1, None, 0)
        for thing, names in (
            (panel, "inputs length delays slip"),
            (constant(1, 1, 0), "size length"),
            (Task(panel, [], [], []), "panel cases promises barred"),
            (Works(panel, [], []), "panel cases rules names letters"),
            (Machine(1, 1, ("a",), [(constant(1, 1, 0), {"a": 0})]), "size length letters states"),
        ):
            for name in names.split():
                self.assertIn(name, vars(thing))

    def test_by_name(self):
        panel = Panel(slip=0, sight=None, length=1, inputs=["a"])
        table = Table(answers={(0,): 0, (1,): 0, (None,): 0}, length=1, size=1)
        task = Task(barred=[], promises=[], cases=[], panel=panel)
        one = importlib.import_module("roundpromises.one")
        self.assertIs(one.keeps(table=table, task=task), True)
        self.assertIs(one.is_right(moment=0, environment=((0,), (0,), 0), task=task), True)
        serving = importlib.import_module("roundpromises.serving")
        told = serving.translator(other=panel, one=panel)
        self.assertTrue(serving.translated(table=table, translator=told, other=panel, one=panel) == table)

    def test_the_package_defines_nothing(self):
        body = parsed("__init__").body
        self.assertTrue(all(isinstance(node, ast.Expr) and isinstance(node.value, ast.Constant) for node in body))

    def test_imports_only_from_those_ahead(self):
        ahead = {name: ORDER[:at] for at, name in enumerate(ORDER)}
        # Further modules stand ahead of the first one that imports from them.
        further = {
            name: ahead[behind] + [other for other in FURTHER if other != name] for name, behind in FURTHER.items()
        }
        for path in FOLDER.glob("*.py"):
            name = path.stem
            for node in ast.walk(parsed(name)):
                if isinstance(node, ast.ImportFrom):
                    source = node.module.removeprefix("roundpromises.")
                    self.assertIn(source, further.get(name, ahead.get(name, []) + list(further)), path.name)

    def test_folder(self):
        found = {path.name for path in FOLDER.iterdir() if path.name != "__pycache__"}
        self.assertEqual(found, {name + ".py" for name in [*ORDER, *FURTHER, "__init__"]})


if __name__ == "__main__":
    unittest.main()
