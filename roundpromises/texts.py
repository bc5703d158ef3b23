"""Texts: works, forms and Tables written as lines of words, and read from them again."""

from roundpromises.errors import BadForm, BadText
from roundpromises.forms import is_low_form
from roundpromises.rows import LONGEST, MOST_INPUTS, rows
from roundpromises.sights import MOST_SLIP, Panel
from roundpromises.tables import Table, check_table
from roundpromises.terms import MOST_CASES
from roundpromises.wording import (
    Words,
    asks_words,
    condition_words,
    form_words,
    read_condition,
    read_low_form,
    read_promise,
    time_word,
)
from roundpromises.works import MOST_RULES, Works, check_works


def works_text(works):
    """The text of a works."""
    check_works(works)
    panel = works.panel
    lines = [["round", str(panel.length), str(panel.slip)]]
    for name, (least, greatest) in zip(panel.inputs, panel.delays):
        lines.append(["input", name, str(least), str(greatest)])
    for letter, condition in works.cases:
        lines.append(["case", letter, condition_words(condition)])
    for name, form, promise in works.rules:
        lines.append(["rule", name, form_words(form)])
        lines.append([asks_words(promise)])
    return text_of(lines)


def read_works(text):
    """The Works with exactly this text."""
    lines = Lines(text)
    words = lines.take()
    words.expect("round")
    length = words.take_number(1, LONGEST)
    slip = words.take_number(0, MOST_SLIP)
    words.finish()
    sight = read_inputs(lines, length)
    cases = read_cases(lines)
    rules = read_rules(lines)
    lines.finish()
    return Works(Panel(list(sight), length, sight, slip), cases, rules)


def form_text(form):
    """The text of a form, one line without a line feed."""
    if not is_low_form(form, None):
        raise BadForm("a form has at most 6 levels")
    return form_words(form)


def read_form(text):
    """The form with this text."""
    if not isinstance(text, str):
        raise BadText(0)
    words = Words(text, 0)
    form = read_low_form(words)
    words.finish()
    return form


def table_text(table):
    """The text of a Table."""
    check_table(table)
    lines = [["table", str(table.size), str(table.length)]]
    for row, time in table.answers().items():
        lines.append([time_word(part) for part in row + (time,)])
    return text_of(lines)


def read_table(text):
    """The Table with exactly this text."""
    lines = Lines(text)
    words = lines.take()
    words.expect("table")
    size = words.take_number(1, MOST_INPUTS)
    length = words.take_number(1, LONGEST)
    words.finish()
    answers = {}
    for row in rows(size, length):
        words = lines.take()
        for time in row:
            words.expect(time_word(time))
        answers[row] = words.take_time(length)
        words.finish()
    lines.finish()
    return Table(size, length, answers)


class Lines:
    """The lines of a text, taken one behind the other; the last one is left out if it is not ended."""

    def __init__(self, text):
        if not isinstance(text, str):
            raise BadText(0)
        lines = text.split("\n")
        self.lines = lines[:-1]
        self.is_ended = lines[-1] == ""
        self.taken = 0

    def is_next(self, word):
        """Tell whether there is a next line, and it begins with this word."""
        return self.taken < len(self.lines) and Words(self.lines[self.taken], 0).is_next(word)

    def take(self):
        """The words of the next line, which must be there and ended."""
        if self.taken == len(self.lines):
            raise BadText(self.taken)
        self.taken += 1
        return Words(self.lines[self.taken - 1], self.taken - 1)

    def finish(self):
        """Refuse lines that are left."""
        if self.taken < len(self.lines) or not self.is_ended:
            raise BadText(self.taken)


def text_of(lines):
    """The text of some lines, each a list of words."""
    return "".join([" ".join(words) + "\n" for words in lines])


def read_inputs(lines, length):
    """The sight told by the next lines: the dict from one to three ascending names to their delays."""
    sight = {}
    while not sight or (len(sight) < MOST_INPUTS and lines.is_next("input")):
        words = lines.take()
        words.expect("input")
        name = words.take_name()
        if sight and name <= list(sight)[-1]:
            raise BadText(words.number)
        least = words.take_number(0, length + 1)
        greatest = words.take_number(least, length + 1)
        words.finish()
        sight[name] = (least, greatest)
    return sight


def read_cases(lines):
    """The cases told by the next lines, as many as may be."""
    cases = []
    while len(cases) < MOST_CASES and lines.is_next("case"):
        words = lines.take()
        words.expect("case")
        letter = words.take_name()
        cases.append((letter, read_condition(words, ("out",))))
    return cases


def read_rules(lines):
    """The rules told by the next pairs of lines, as many as may be."""
    rules = []
    while len(rules) < MOST_RULES and lines.is_next("rule"):
        words = lines.take()
        words.expect("rule")
        name = words.take_name()
        form = read_low_form(words)
        words.finish()
        rules.append((name, form, read_promise(lines.take())))
    return rules
