"""Point 200: texts of works, forms and Tables."""

import itertools
import random
import re
import unittest

from roundpromises.errors import BadForm, BadTable, BadText, BadWorks, TooMany
from roundpromises.forms import ALWAYS
from roundpromises.sights import Panel
from roundpromises.tables import Table, constant
from roundpromises.texts import form_text, read_form, read_table, read_works, table_text, works_text
from roundpromises.works import Works
from tests.helpers import JUNK, Case, all_tables, times_of
from tests.small import works_by

# Names that are words of the texts themselves.
WORDS = (
    "then one rings asks if and never always any empty either both not many first last latest silent gap round "
    "input case rule table hear ring tick close put drop undo a b zzzzzz"
).split()
PANEL = Panel(["and", "rings", "if"], 2, {"and": (0, 3), "if": (1, 2), "rings": (0, 0)}, 1)
RULES = [
    ("asks", ("then", ("one", "one"), ALWAYS), ((), ("never",))),
    (
        "if",
        ("either", ("one", "other"), ("empty",)),
        ((("rings", "and"), ("silent", "if")), ("last", ("start",), -1, 2)),
    ),
    ("never", ALWAYS, ((("gap", "start", "and", -2),), ("latest", ("and", "if", "rings"), -8, 8))),
]
CASES = [
    ("one", (("rings", "out"), ("gap", "out", "and", 1))),
    ("then", (("silent", "rings"), ("gap", "start", "out", 8))),
    ("always", ()),
]
WORKS = Works(PANEL, CASES, RULES)
TEXT = """round 2 1
input and 0 3
input if 1 2
input rings 0 0
case one rings out and gap out and 1
case then silent rings and gap start out 8
case always always
rule asks then one one many any
asks never if always
rule if either one other empty
asks last start -1 2 if rings and and silent if
rule never many any
asks latest and,if,rings -8 8 if gap start and -2
"""


class Drawn:
    """Values drawn by chance: forms, conditions, promises, works."""

    def __init__(self, seed):
        self.chance = random.Random(seed)

    def form(self, letters, levels):
        chance = self.chance
        kind = chance.choice(("one", "any", "empty") if levels == 1 or chance.random() < 0.2 else KINDS)
        if kind == "one":
            return kind, chance.choice(letters)
        if kind in ("any", "empty"):
            return (kind,)
        if kind in ("not", "many"):
            return kind, self.form(letters, levels - 1)
        return kind, self.form(letters, levels - 1), self.form(letters, levels - 1)

    def condition(self, names, most):
        terms = []
        for _ in range(self.chance.randint(0, most)):
            if self.chance.random() < 0.5:
                terms.append((self.chance.choice(("rings", "silent")), self.chance.choice(names)))
            else:
                ends = self.chance.sample([*names, "start"], 2)
                terms.append(("gap", *ends, self.chance.randint(-8, 8)))
        return tuple(terms)

    def promise(self, inputs):
        condition = self.condition(inputs, 4)
        if self.chance.random() < 0.2:
            return condition, ("never",)
        names = tuple(sorted(self.chance.sample(inputs, self.chance.randint(1, len(inputs)))))
        names = ("start",) if self.chance.random() < 0.3 else names
        low = self.chance.randint(-8, 8)
        window = (self.chance.choice(("first", "last", "latest")), names, low, self.chance.randint(low, 8))
        return condition, window

    def works(self):
        chance = self.chance
        while True:
            inputs = sorted(chance.sample(WORDS, chance.randint(1, 3)))
            length = chance.randint(1, 8) if len(inputs) == 1 else chance.randint(1, 3)
            least = [chance.randint(0, length + 1) for _ in inputs]
            sight = {name: (low, min(length + 1, low + chance.randint(0, 2))) for name, low in zip(inputs, least)}
            letters = chance.sample(WORDS, chance.randint(0, 3))
            cases = [(letter, self.condition([*inputs, "out"], 4)) for letter in letters]
            names = chance.sample(WORDS, chance.randint(0, 6))
            rules = [(name, self.form([*letters, "other"], 3), self.promise(inputs)) for name in names]
            try:
                return Works(Panel(inputs, length, sight, chance.randint(0, 2)), cases, rules)
            except TooMany:
                continue


KINDS = ("one", "any", "empty", "then", "either", "both", "not", "many")


def is_number(word, low, high):
    return re.fullmatch("0|-?[1-9][0-9]?", word) is not None and low <= int(word) <= high


def is_name(word, *more):
    return word in more or (re.fullmatch("[a-z]{1,6}", word) is not None and word not in ("out", "start", "other"))


def are_form(words):
    """Whether words are just one form: read from behind, with a stack of levels."""
    levels = []
    words = list(words)
    while words:
        word = words.pop()
        if is_leaf(words):
            words.pop()
            if not is_name(word, "other"):
                return False
            levels.append(1)
        elif word in ("any", "empty"):
            levels.append(1)
        elif word in ("not", "many") and levels:
            levels.append(levels.pop() + 1)
        elif word in ("then", "either", "both") and len(levels) > 1:
            levels.append(max(levels.pop(), levels.pop()) + 1)
        else:
            return False
    return len(levels) == 1 and levels[0] <= 6


def is_leaf(words):
    """Whether the last word is "one" and begins a form, being no letter: an odd number of them stand side by side."""
    count = 0
    for word in reversed(words):
        if word != "one":
            break
        count += 1
    return count % 2 == 1


def is_condition(words, *outs):
    if words == ["always"]:
        return True
    terms = []
    while words:
        many = 4 if words[0] == "gap" else 2
        terms.append(words[:many])
        words = words[many:]
        if words and (words[0] != "and" or len(words) == 1):
            return False
        words = words[1:]
    return 1 <= len(terms) <= 4 and all(is_term(term, *outs) for term in terms)


def is_term(words, *outs):
    if len(words) == 2:
        return words[0] in ("rings", "silent") and is_name(words[1], *outs)
    if len(words) != 4 or words[0] != "gap" or words[1] == words[2]:
        return False
    return all(is_name(word, "start", *outs) for word in words[1:3]) and is_number(words[3], -8, 8)


def is_asking(words):
    if words[:2] == ["asks", "never"]:
        return words[2:3] == ["if"] and is_condition(words[3:])
    if len(words) < 7 or words[0] != "asks" or words[1] not in ("first", "last", "latest") or words[5] != "if":
        return False
    names = words[2].split(",")
    if names != ["start"]:
        if not all(is_name(name) for name in names) or names != sorted(set(names)) or len(names) > 3:
            return False
    fits = is_number(words[3], -8, 8) and is_number(words[4], -8, 8) and int(words[3]) <= int(words[4])
    return fits and is_condition(words[6:])


def wrong_line(text):
    """The number of the first line that cannot stand where it stands; None if all can, by another road."""
    if not isinstance(text, str) or text == "":
        return 0
    lines = text.split("\n")
    ended, last = lines[:-1], lines[-1]
    counts = {"round": 0, "input": 0, "case": 0, "rule": 0}
    length = names = owed = None
    for at, line in enumerate(ended):
        words = line.split(" ")
        kind = words[0]
        if owed:
            fits, owed = is_asking(words), None
        elif kind not in counts or counts[kind] == {"round": 1, "input": 3, "case": 3, "rule": 6}[kind]:
            return at
        elif kind == "round":
            fits = len(words) == 3 and is_number(words[1], 1, 8) and is_number(words[2], 0, 2)
            length = int(words[1]) if fits else None
        elif kind == "input":
            fits = at > 0 and not counts["case"] and not counts["rule"] and len(words) == 4 and is_name(words[1])
            fits = fits and (names is None or names < words[1])
            fits = fits and is_number(words[2], 0, length + 1) and is_number(words[3], 0, length + 1)
            fits = fits and int(words[2]) <= int(words[3])
            names = words[1] if fits else None
        elif kind == "case":
            fits = counts["input"] and not counts["rule"] and len(words) > 2 and is_name(words[1])
            fits = fits and is_condition(words[2:], "out")
        else:
            fits = counts["input"] and len(words) > 2 and is_name(words[1]) and are_form(words[2:])
            owed = True
        if not fits:
            return at
        if kind in counts and not (kind == "rule" and owed is None):
            counts[kind] += 1
    missing = owed or not counts["round"] or not counts["input"]
    return len(ended) if missing or last else None


class WorksTexts(Case):
    def test_a_text(self):
        self.same(works_text(WORKS), TEXT)
        self.assertTrue(read_works(TEXT) == WORKS)
        self.same(works_text(Works(Panel(["b"], 1, None, 0), [], [])), "round 1 0\ninput b 0 0\n")

    def test_read_as_they_were_written(self):
        for seed in range(250):
            works = Drawn(seed).works()
            text = works_text(works)
            self.assertIsNone(wrong_line(text), text)
            self.assertTrue(read_works(text) == works)
            self.same(works_text(read_works(text)), text)
        for seed in range(60):
            self.assertTrue(read_works(works_text(works_by(seed))) == works_by(seed))

    def test_one_word_otherwise(self):
        told = []
        for seed in range(30):
            chance = random.Random(seed)
            lines = works_text(Drawn(seed).works()).split("\n")[:-1] if seed else TEXT.split("\n")[:-1]
            every = sorted({word for line in lines for word in line.split(" ")})
            for at, line in enumerate(lines):
                words = line.split(" ")
                for place in range(len(words) + 1):
                    for word in chance.sample(every, min(len(every), 3)) + chance.sample(ODD_WORDS, 3):
                        self.judge(told, lines, at, [*words[:place], word, *words[place + 1 :]])
                        self.judge(told, lines, at, [*words[:place], word, *words[place:]])
                    self.judge(told, lines, at, [*words[:place], *words[place + 1 :]])
        self.assertTrue({"text", "works", "right"} <= set(told))
        self.assertGreater(min(told.count("right"), told.count("works")), 100)

    def judge(self, told, lines, at, words):
        changed = [*lines[:at], " ".join(words), *lines[at + 1 :]]
        self.read("\n".join(changed) + "\n", told)

    def read(self, text, told):
        wanted = wrong_line(text)
        try:
            works = read_works(text)
        except BadText as error:
            told.append("text")
            self.same(error.at, wanted)
        except (BadWorks, TooMany):
            told.append("works")
            self.assertIsNone(wanted, text)
        else:
            told.append("right")
            self.assertIsNone(wanted, text)
            self.same(works_text(works), text)

    def test_one_line_otherwise(self):
        told = []
        for seed in range(30):
            lines = works_text(Drawn(seed).works()).split("\n")[:-1] if seed else TEXT.split("\n")[:-1]
            more = lines + TEXT.split("\n")[:-1] + ["", " ", "round 2 1 ", "case", "rule", "input"]
            for at in range(len(lines) + 1):
                self.read("\n".join(lines[:at] + lines[at + 1 :] + [""]), told)
                self.read("\n".join(lines[:at] + lines[at : at + 2][::-1] + lines[at + 2 :] + [""]), told)
                self.read("\n".join(lines[:at]), told)
                self.read("\n".join(lines[:at] + [""]), told)
                for line in more:
                    self.read("\n".join(lines[:at] + [line] + lines[at:] + [""]), told)
        self.assertGreater(told.count("right"), 100)

    def test_what_is_no_text(self):
        for text in (*[thing for thing in JUNK if thing != "a"], ["round 2 1\n"], b"", TEXT.encode(), WORKS):
            self.refused(BadText, read_works, text, at=0)
        for text in ("a", "\n", " ", "round", "round 2 1", "round 2 1 \n", " round 2 1\n", "round  2 1\n"):
            self.refused(BadText, read_works, text, at=0)

    def test_missing_and_unended_lines(self):
        lines = TEXT.split("\n")[:-1]
        self.refused(BadText, read_works, "round 2 1\n", at=1)
        self.refused(BadText, read_works, "round 2 1\ninput b 0 0", at=1)
        self.refused(BadText, read_works, "\n".join(lines), at=12)
        self.refused(BadText, read_works, "\n".join(lines[:12] + [""]), at=12)
        self.refused(BadText, read_works, "\n".join(lines[:11]), at=10)
        self.refused(BadText, read_works, TEXT + "\n", at=13)
        self.refused(BadText, read_works, TEXT + " ", at=13)
        self.refused(BadText, read_works, TEXT + TEXT, at=13)
        # The first of two lines that are wrong.
        self.refused(BadText, read_works, TEXT.replace("round 2 1", "round 9 1")[:-1], at=0)
        self.refused(BadText, read_works, TEXT.replace("any", "anyone")[:-1], at=7)

    def test_numbers(self):
        for word in ("+1", "01", "-0", "1.0", "1_0", "", "x", "-", "1 ", "10", "3", "-1"):
            self.refused(BadText, read_works, "round 2 " + word + "\ninput b 0 0\n", at=0)
            self.refused(BadText, read_works, "round 1 0\ninput b 0 " + word + "\n", at=1)
        for word in ("0", "9", "-1", "08", "+8"):
            self.refused(BadText, read_works, "round " + word + " 0\ninput b 0 0\n", at=0)
        self.refused(BadText, read_works, "round 2 0\ninput b 2 1\n", at=1)
        self.assertTrue(read_works("round 2 2\ninput b 3 3\n") == Works(Panel(["b"], 2, {"b": (3, 3)}, 2), [], []))
        head = "round 2 0\ninput b 0 0\nrule x any\nasks "
        for window in ("first b 1 0", "first b -9 0", "first b 0 9", "first b -0 0", "first b 0", "first b 0 0 0"):
            self.refused(BadText, read_works, head + window + " if always\n", at=3)
        for gap in ("-0", "9", "-9", "+1", "01", "-01", "1x", "b"):
            self.refused(BadText, read_works, head + "never if gap start b " + gap + "\n", at=3)
        for gap in ("-8", "8", "0"):
            read_works(head + "never if gap start b " + gap + "\n")

    def test_names(self):
        for name in ("out", "start", "other", "B", "b1", "abcdefg", "", "b,c", "-"):
            self.refused(BadText, read_works, "round 2 0\ninput " + name + " 0 0\n", at=1)
            self.refused(BadText, read_works, "round 2 0\ninput b 0 0\ncase " + name + " always\n", at=2)
            rule = "rule " + name + " any\nasks never if always\n"
            self.refused(BadText, read_works, "round 2 0\ninput b 0 0\n" + rule, at=2)
        self.refused(BadText, read_works, "round 2 0\ninput b 0 0\ninput b 0 0\n", at=2)
        self.refused(BadText, read_works, "round 2 0\ninput c 0 0\ninput b 0 0\n", at=2)
        four = "round 1 0\n" + "".join(f"input {name} 0 0\n" for name in "abcd")
        self.refused(BadText, read_works, four, at=4)

    def test_names_joined_by_commas(self):
        head = "round 1 0\ninput b 0 0\ninput c 0 0\nrule x any\nasks "
        read_works(head + "first b,c 0 0 if always\n")
        read_works(head + "first start 0 0 if always\n")
        for names in ("c,b", "b,b", "b,", ",b", "b,,c", "", "b,start", "start,start", "out", "b, c", "B", "a,b,c,d"):
            self.refused(BadText, read_works, head + "first " + names + " 0 0 if always\n", at=4)

    def test_conditions(self):
        head = "round 1 0\ninput b 0 0\n"
        five = " and ".join(["rings b"] * 5)
        self.refused(BadText, read_works, head + "case a " + five + "\n", at=2)
        read_works(head + "case a " + " and ".join(["rings b"] * 4) + "\n")
        for condition in (
            "",
            "and",
            "rings",
            "rings b and",
            "and rings b",
            "rings b rings b",
            "always and rings b",
            "rings b and always",
            "rings start",
            "silent start",
            "rings other",
            "gap b b 0",
            "gap start start 0",
            "gap b out",
            "gap b 0",
            "never",
        ):
            self.refused(BadText, read_works, head + "case a " + condition + "\n", at=2)
            self.refused(BadText, read_works, head + "rule x any\nasks never if " + condition + "\n", at=3)
        for condition in ("rings out", "silent out", "gap b out 0", "gap out start 0"):
            read_works(head + "case a " + condition + "\n")
            self.refused(BadText, read_works, head + "rule x any\nasks never if " + condition + "\n", at=3)
        for condition in ("gap start b 0", "gap b start 0"):
            read_works(head + "case a " + condition + "\n")
            read_works(head + "rule x any\nasks never if " + condition + "\n")

    def test_errors_of_works(self):
        head = "round 1 0\ninput b 0 0\n"
        rule = "rule x any\nasks never if always\n"
        for text, part in (
            ("case a rings c\n", "cases"),
            ("case a always\ncase a always\n", "cases"),
            ("case a always\ncase a rings c\nrule x one z\nasks never if always\n", "cases"),
            (rule + rule, "rules"),
            ("rule x one z\nasks never if always\n", "rules"),
            ("rule x any\nasks never if rings c\n", "rules"),
            ("rule x any\nasks first c 0 0 if always\n", "rules"),
        ):
            self.refused(BadWorks, read_works, head + text, part=part)
        read_works(head + "rule x one other\nasks never if always\n")
        large = "round 8 2\ninput b 0 9\ninput c 0 9\n"
        self.refused(TooMany, read_works, large, most=2000)
        self.refused(BadWorks, read_works, large + "case a rings d\n", part="cases")
        self.refused(BadText, read_works, large + "case a rings D\n", at=3)
        fifteen = "then " * 4 + "any any any any any"
        asks = "\nasks never if always\n"
        many = "rule x many " + fifteen + asks + "rule y many then any then any any" + asks
        self.same(len(read_works(head + many)), 15)
        more = many + "rule z many then any any" + asks
        self.refused(TooMany, read_works, head + more, most=16)

    def test_seven_levels_and_seven_rules(self):
        head = "round 1 0\ninput b 0 0\n"
        read_works(head + "rule x not not not not not any\nasks never if always\n")
        self.refused(BadText, read_works, head + "rule x not not not not not not any\nasks never if always\n", at=2)
        rules = ["rule " + name + " many any\nasks never if always\n" for name in "abcdefg"]
        self.same(len(read_works(head + "".join(rules[:6])).rules), 6)
        self.refused(BadText, read_works, head + "".join(rules), at=14)
        cases = ["case " + name + " always\n" for name in "abcd"]
        self.same(len(read_works(head + "".join(cases[:3])).cases), 3)
        self.refused(BadText, read_works, head + "".join(cases), at=5)

    def test_works_text_of_what_is_none(self):
        for thing in (*JUNK, TEXT):
            self.refused(BadWorks, works_text, thing, part=None)


ODD_WORDS = ["", "out", "start", "other", "-", "-0", "+1", "01", "9", "0", "8", "-8", "and", "if", "any", "one"]
ODD_WORDS += ["b,c", "B"]


class FormTexts(Case):
    def test_by_hand(self):
        self.same(form_text(("then", ("one", "a"), ALWAYS)), "then one a many any")
        self.same(read_form("then one a many any"), ("then", ("one", "a"), ALWAYS))
        self.same(form_text(("one", "other")), "one other")
        for word in ("one", "then", "any", "empty", "many", "not"):
            self.same(read_form("one " + word), ("one", word))
            self.same(read_form("not one " + word), ("not", ("one", word)))
        self.same(read_form("then one one one one"), ("then", ("one", "one"), ("one", "one")))

    def test_read_as_they_were_written(self):
        for seed in range(300):
            drawn = Drawn(seed)
            form = drawn.form(WORDS + ["other"], drawn.chance.randint(1, 6))
            text = form_text(form)
            self.assertTrue(are_form(text.split(" ")), text)
            self.same(read_form(text), form)

    def test_all_short_texts(self):
        """All texts of up to four words of some, against a reader that begins at the end."""
        found = 0
        words = ("one", "any", "then", "not", "other", "a", "", "out")
        for many in range(5):
            for chosen in itertools.product(words, repeat=many):
                fits = are_form(chosen) if chosen else False
                text = " ".join(chosen)
                if fits:
                    found += 1
                    self.same(form_text(read_form(text)), text)
                else:
                    self.refused(BadText, read_form, text, at=0)
        self.assertGreater(found, 30)

    def test_what_is_no_form(self):
        for thing in JUNK:
            self.refused(BadForm, form_text, thing)
            self.refused(BadText, read_form, thing, at=0)
        seven = ("any",)
        for _ in range(6):
            seven = ("not", seven)
        self.refused(BadForm, form_text, seven)
        self.same(form_text(seven[1]), "not not not not not any")
        for kind in ("then", "either", "both"):
            self.refused(BadText, read_form, (kind + " any ") * 6 + "any", at=0)
            self.refused(BadText, read_form, (kind + " ") * 6 + " ".join(["any"] * 7), at=0)
            self.same(form_text(read_form((kind + " any ") * 5 + "any")), (kind + " any ") * 5 + "any")
            read_form((kind + " ") * 5 + " ".join(["any"] * 6))
        for form in (("one", "out"), ["any"], ("any", "any"), ("then", ("any",)), ("one", ("any",)), ("not", ["any"])):
            self.refused(BadForm, form_text, form)
        for text in (
            "any\n",
            " any",
            "any ",
            "any any",
            "one",
            "one out",
            "one start",
            "one A",
            "then any",
            "then  any any",
            "not",
            "not not not not not not any",
            "Any",
            "any\nany",
            "many",
        ):
            self.refused(BadText, read_form, text, at=0)
        # More letters than a works can have.
        self.same(form_text(read_form("then one a then one b then one c then one d one e"))[:10], "then one a")


class TableTexts(Case):
    def test_by_hand(self):
        table = Table(1, 2, {(0,): 1, (1,): 2, (2,): None, (None,): None})
        self.same(table_text(table), "table 1 2\n0 1\n1 2\n2 -\n- -\n")
        self.assertTrue(read_table("table 1 2\n0 1\n1 2\n2 -\n- -\n") == table)
        wide = table_text(constant(2, 1, 0))
        self.same(wide.split("\n"), ["table 2 1"] + [f"{a} {b} 0" for a in "01-" for b in "01-"] + [""])

    def test_read_as_they_were_written(self):
        for table in [*all_tables(1, 2), *all_tables(2, 1), *all_tables(1, 3)[::20]]:
            text = table_text(table)
            self.assertTrue(read_table(text) == table)
            self.same(table_text(read_table(text)), text)
        for size, length, moment in ((1, 8, 8), (2, 8, None), (3, 4, 0)):
            self.assertTrue(read_table(table_text(constant(size, length, moment))) == constant(size, length, moment))

    def test_all_answers_of_one_length(self):
        told = []
        tables = all_tables(1, 1)
        for answers in itertools.product(("0", "1", "-"), repeat=3):
            text = "table 1 1\n" + "".join(f"{row} {time}\n" for row, time in zip("01-", answers))
            if any(table_text(table) == text for table in tables):
                told.append(True)
                self.same(table_text(read_table(text)), text)
            else:
                told.append(False)
                self.refused(BadTable, read_table, text, part="answers")
        self.same((told.count(True), told.count(False)), (len(tables), 27 - len(tables)))

    def test_one_word_or_line_otherwise(self):
        for table in [*all_tables(1, 2)[::7], *all_tables(2, 1)[::40]]:
            lines = table_text(table).split("\n")[:-1]
            for at in range(len(lines)):
                self.judge(lines, lines[:at] + lines[at + 1 :])
                self.judge(lines, lines[:at] + [lines[at]] + lines[at:])
                self.judge(lines, lines[:at] + lines[at : at + 2][::-1] + lines[at + 2 :])
                words = lines[at].split(" ")
                for place in range(len(words)):
                    for word in ("0", "1", "2", "3", "-", "", "-0", "01", "+1", "None", "table"):
                        changed = [*words[:place], word, *words[place + 1 :]]
                        self.judge(lines, lines[:at] + [" ".join(changed)] + lines[at + 1 :])
                self.judge(lines, lines[:at] + [lines[at] + " 0"] + lines[at + 1 :])
                self.judge(lines, lines[:at] + [lines[at] + " "] + lines[at + 1 :])

    def judge(self, lines, changed):
        """The first line that is not as in the text of a Table with the size and the length of the first line."""
        text = "\n".join(changed + [""])
        wanted = self.wrong(changed)
        try:
            self.same(table_text(read_table(text)), text)
            self.assertIsNone(wanted)
        except BadText as error:
            self.same(error.at, wanted)
        except BadTable as error:
            self.same((error.part, wanted), ("answers", None))

    def wrong(self, lines):
        if not lines or not re.fullmatch("table [123] [1-8]", lines[0]):
            return 0
        size, length = (int(word) for word in lines[0].split(" ")[1:])
        signs = ["-" if time is None else str(time) for time in times_of(length)]
        wanted = list(itertools.product(signs, repeat=size))
        for at, line in enumerate(lines[1:], 1):
            words = line.split(" ")
            if at > len(wanted) or tuple(words[:-1]) != wanted[at - 1] or words[-1] not in signs:
                return at
        return None if len(lines) == len(wanted) + 1 else len(lines)

    def test_what_is_no_text(self):
        for thing in JUNK:
            self.refused(BadText, read_table, thing, at=0)
            self.refused(BadTable, table_text, thing, part=None)
        text = table_text(constant(1, 1, 0))
        self.refused(BadText, read_table, text[:-1], at=3)
        self.refused(BadText, read_table, text + "\n", at=4)
        self.refused(BadText, read_table, text + "- 0\n", at=4)
        self.refused(BadText, read_table, "table 1 1", at=0)
        self.refused(BadText, read_table, "table 1 1\n", at=1)
        heads = ("table 4 1", "table 0 1", "table 1 9", "table 1 0", "table 1", "table", "Table 1 1", "table 1 1 1")
        for head in heads:
            self.refused(BadText, read_table, head + "\n" + text, at=0)
        # A wrong line comes ahead of answers that are those of no Table.
        self.refused(BadTable, read_table, "table 1 1\n0 0\n1 0\n- 1\n", part="answers")
        self.refused(BadText, read_table, "table 1 1\n0 0\n1 0\n- 2\n", at=3)


if __name__ == "__main__":
    unittest.main()
