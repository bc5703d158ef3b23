"""Works: rules with forms of what was before, and the modes into which they part all words."""

from roundpromises.bits import SILENT
from roundpromises.checks import are_different, is_list, is_name, is_tuple_of, is_within
from roundpromises.errors import BadBarred, BadMode, BadName, BadWord, BadWorks, OtherWorks, TooMany
from roundpromises.forms import is_low_form
from roundpromises.modes import allowed_rings, promises_in
from roundpromises.one import Task, are_letters_among
from roundpromises.promises import is_promise_for
from roundpromises.readers import explored_within, paired, reader_of, shortest_words
from roundpromises.sights import Panel, check_few_environments
from roundpromises.terms import are_cases_of, letters_of

MOST_RULES = 6
MOST_MODES = 16


class Works:
    """A panel, cases and rules; a rule is active while its form matches the letters so far."""

    def __init__(self, panel, cases, rules):
        if not isinstance(panel, Panel):
            raise BadWorks("panel")
        if not are_cases_of(cases, panel.inputs + ("out",)):
            raise BadWorks("cases")
        if not are_rules(rules, panel.inputs, letters_of(cases)):
            raise BadWorks("rules")
        check_few_environments(panel)
        self.panel = panel
        self.cases = tuple(cases)
        self.rules = tuple(rules)
        self.names = tuple([name for name, _, _ in rules])
        self.letters = letters_of(cases)
        readers = [reader_of(form, self.letters) for _, form, _ in rules]
        found = explored_modes(readers, len(self.letters))
        if found is None:
            raise TooMany(MOST_MODES)
        self._active_rules, self._ways = found
        # What modes.py works out for this works once, when it is asked for.
        self._modes = None

    def __eq__(self, other):
        return (
            isinstance(other, Works)
            and self.panel == other.panel
            and self.cases == other.cases
            and self.rules == other.rules
        )

    def __len__(self):
        return len(self._ways)

    def active(self, mode):
        """The names of the active rules of a mode, in their order."""
        check_mode(self, mode)
        return tuple([self.names[at] for at in self._active_rules[mode]])

    def ways(self, mode):
        """The dict from all letters to the modes behind one letter more."""
        check_mode(self, mode)
        behind = dict(zip(self.letters, self._ways[mode]))
        return {letter: behind[letter] for letter in sorted(self.letters)}

    def mode_behind(self, word):
        """The mode of a word."""
        check_word_of(word, self.letters)
        return led_by(self._ways, self.letters, word)

    def word_to(self, mode):
        """The first of the shortest words of a mode."""
        check_mode(self, mode)
        words = shortest_words(self._ways, self.letters)
        return words[mode]

    def with_panel(self, panel):
        """The Works with another panel."""
        return Works(panel, self.cases, self.rules)

    def with_rule(self, rule):
        """The Works with a rule more, behind the others."""
        return Works(self.panel, self.cases, self.rules + (rule,))

    def without(self, name):
        """The Works without the rule of a name."""
        if name not in self.names:
            raise BadName("a rule of the works has this name")
        return Works(self.panel, self.cases, [rule for rule in self.rules if rule[0] != name])


def task_of(works, mode, barred):
    """The Task of the promises of the active rules of a mode, with letters barred."""
    check_works(works)
    check_mode(works, mode)
    if not are_letters_among(barred, works.letters):
        raise BadBarred("barred is a list of different letters of the works")
    return Task(works.panel, works.cases, promises_in(works, mode), barred)


def same_plays(one, other):
    """Tell whether behind every word the active rules of both allow the same."""
    return parting_letters(one, other) is None


def parting_letters(one, other):
    """The first of the shortest words behind which the active rules of both do not allow the same, or None."""
    check_like_works(one, other)
    found, ways = paired((None, one._ways), (None, other._ways))
    words = shortest_words(ways, one.letters)
    # The document compares ringings from 0 to two behind the end of the round, and never.
    judged = (8 << one.panel.length) - 1 | SILENT
    for at, (mode, other_mode) in enumerate(found):
        if differs(allowed_rings(one, mode), allowed_rings(other, other_mode), judged):
            return words[at]
    return None


def check_works(works):
    """Refuse what is no Works."""
    if not isinstance(works, Works):
        raise BadWorks(None)


def check_mode(works, mode):
    """Refuse what is no number of a mode of a works."""
    if not is_mode(works, mode):
        raise BadMode("a mode is a number from 0 on, less than how many modes there are")


def check_like_works(one, other):
    """Refuse what are no works with equal panels and cases."""
    check_works(one)
    check_works(other)
    if one.panel != other.panel or one.cases != other.cases:
        raise OtherWorks("both works have equal panels and equal cases")


def check_word_of(word, letters):
    """Refuse what is no word of these letters."""
    if not isinstance(word, tuple) or not all([letter in letters for letter in word]):
        raise BadWord("a word is a tuple of these letters")


def is_mode(works, thing):
    """Tell whether any value is the number of a mode."""
    return is_within(thing, 0, len(works) - 1)


def are_modes(works, thing):
    """Tell whether any value is a dict from numbers of modes, 0 among them."""
    return isinstance(thing, dict) and all([is_mode(works, mode) for mode in thing.keys()]) and 0 in thing


def are_rules(thing, inputs, letters):
    """Tell whether any value is a list of at most 6 rules with different names."""
    if not is_list(thing) or len(thing) > MOST_RULES:
        return False
    return all([is_rule(rule, inputs, letters) for rule in thing]) and are_different([rule[0] for rule in thing])


def is_rule(thing, inputs, letters):
    """Tell whether any value is a triple of a name, a form of these letters and a promise for these inputs."""
    if not is_tuple_of(thing, 3) or not is_name(thing[0]):
        return False
    return is_low_form(thing[1], letters) and is_promise_for(thing[2], inputs)


def explored_modes(readers, many):
    """For each mode the indexes of its active rules, and the ways between the modes; None for too many modes.

    Where the readers are in other states, some rule is told apart by some letters, as each has as few as can be.
    """

    def step(state, letter):
        """The states of all readers behind one letter more."""
        return tuple([behind[at][letter] for at, (_, behind) in zip(state, readers)])

    told = explored_within(tuple([0 for _ in readers]), step, many, MOST_MODES)
    if told is None:
        return None
    found, ways = told
    actives = [[rule for rule, (marks, _) in enumerate(readers) if marks[places[rule]]] for places in found]
    return actives, ways


def led_by(ways, letters, word):
    """The state to which ways lead from state 0 by the letters of a word."""
    at = 0
    for letter in word:
        at = ways[at][letters.index(letter)]
    return at


def differs(rings, others, judged):
    """Tell whether two lists of ringings differ in what is judged."""
    return any([(one ^ other) & judged != 0 for one, other in zip(rings, others)])
