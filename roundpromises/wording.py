"""Wording: terms, conditions, windows, forms and rules as words of a line, and read from them again."""

from roundpromises.checks import is_ascending, is_name
from roundpromises.errors import BadText
from roundpromises.forms import MOST_LEVELS, is_letter
from roundpromises.promises import NEVER, START, WHICH
from roundpromises.rows import MOST_INPUTS
from roundpromises.terms import MOST_TERMS, WIDEST

NO_TIME = "-"


class Words:
    """The words of a line, taken from left to right; the number is that of the line, told in errors."""

    def __init__(self, line, number):
        self.number = number
        self.words = line.split(" ")
        self.taken = 0

    def is_next(self, word):
        """Tell whether there is a next word, and it is this one."""
        return self.taken < len(self.words) and self.words[self.taken] == word

    def take(self):
        """The next word."""
        if self.taken == len(self.words):
            raise BadText(self.number)
        self.taken += 1
        return self.words[self.taken - 1]

    def expect(self, word):
        """Take the next word, which must be this one."""
        if self.take() != word:
            raise BadText(self.number)

    def finish(self):
        """Refuse words that are left."""
        if self.taken < len(self.words):
            raise BadText(self.number)

    def take_name(self):
        """The next word, which must be a name."""
        word = self.take()
        if not is_name(word):
            raise BadText(self.number)
        return word

    def take_number(self, low, high):
        """The number within bounds that the next word tells."""
        word = self.take()
        for number in range(low, high + 1):
            if word == str(number):
                return number
        raise BadText(self.number)

    def take_time(self, last):
        """The time, a number up to a last one or never, that the next word tells."""
        if self.is_next(NO_TIME):
            self.take()
            return None
        return self.take_number(0, last)


def time_word(time):
    """The word for a time."""
    return NO_TIME if time is None else str(time)


def condition_words(condition):
    """The words of a condition."""
    terms = [" ".join([str(part) for part in term]) for term in condition]
    return " and ".join(terms) if terms else "always"


def window_words(window):
    """The words of a window."""
    if window == NEVER:
        return "never"
    which, names, low, high = window
    return " ".join([which, ",".join(names), str(low), str(high)])


def form_words(form):
    """The words of a form."""
    return " ".join([part if isinstance(part, str) else form_words(part) for part in form])


def asks_words(promise):
    """The words of what a promise asks, and when."""
    condition, window = promise
    return " ".join(["asks", window_words(window), "if", condition_words(condition)])


def read_condition(words, outs):
    """The condition told by all words that are left; outs are the names of no inputs that may stand in it."""
    if words.is_next("always"):
        words.take()
        words.finish()
        return ()
    terms = [read_term(words, outs)]
    while words.is_next("and"):
        words.take()
        terms.append(read_term(words, outs))
    words.finish()
    if len(terms) > MOST_TERMS:
        raise BadText(words.number)
    return tuple(terms)


def read_term(words, outs):
    """The term told by the next words."""
    word = words.take()
    if word in ("rings", "silent"):
        return word, read_end(words, outs)
    if word != "gap":
        raise BadText(words.number)
    begin = read_end(words, outs + START)
    end = read_end(words, outs + START)
    if begin == end:
        raise BadText(words.number)
    return word, begin, end, words.take_number(-WIDEST, WIDEST)


def read_end(words, others):
    """The next word, which must be a name, or one of the others."""
    word = words.take()
    if not is_name(word) and word not in others:
        raise BadText(words.number)
    return word


def read_window(words):
    """The window told by the next words."""
    word = words.take()
    if word == "never":
        return NEVER
    names = tuple(words.take().split(","))
    if word not in WHICH or not are_window_words(names):
        raise BadText(words.number)
    low = words.take_number(-WIDEST, WIDEST)
    return word, names, low, words.take_number(low, WIDEST)


def are_window_words(names):
    """Tell whether some words are the names of a window for some inputs, or that of "start" alone."""
    if names == START:
        return True
    return len(names) <= MOST_INPUTS and all([is_name(name) for name in names]) and is_ascending(names)


def read_form_words(words, levels):
    """The form of at most so many levels told by the next words."""
    kind = words.take()
    if kind in ("any", "empty"):
        return (kind,)
    if kind == "one":
        return kind, read_letter(words)
    if levels == 1 or kind not in ("not", "many", "then", "either", "both"):
        raise BadText(words.number)
    first = read_form_words(words, levels - 1)
    if kind in ("not", "many"):
        return kind, first
    return kind, first, read_form_words(words, levels - 1)


def read_letter(words):
    """The next word, which must be a letter."""
    word = words.take()
    if not is_letter(word):
        raise BadText(words.number)
    return word


def read_low_form(words):
    """The form told by the next words, of as many levels as are let where a form is expected."""
    return read_form_words(words, MOST_LEVELS)


def read_promise(words):
    """The promise told by all words that are left: what it asks, and when."""
    words.expect("asks")
    window = read_window(words)
    words.expect("if")
    return read_condition(words, ()), window
