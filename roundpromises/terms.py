"""Terms, conditions and cases: what is asked of the times of a round, and the letter it leaves."""

from roundpromises.checks import are_different, is_list, is_name, is_tuple_of, is_within
from roundpromises.errors import BadCases, BadCondition, BadNames, BadTimes

MOST_TERMS = 4
MOST_CASES = 3
LAST_TIME = 12
WIDEST = 8


def is_condition(thing, names):
    """Tell whether any value is a condition of these names."""
    check_names(names)
    return is_condition_of(thing, names)


def holds(condition, times):
    """Tell whether a condition holds for times by names."""
    if not is_condition_of(condition, None):
        raise BadCondition(None)
    check_times(times)
    check_known([condition], times)
    return is_true(condition, times)


def is_cases(thing, names):
    """Tell whether any value is cases of these names."""
    check_names(names)
    return are_cases_of(thing, names)


def letters_of(cases):
    """The letters of cases, in their order, and "other" behind them."""
    check_cases(cases)
    return tuple([letter for letter, _ in cases]) + ("other",)


def letter_of(cases, times):
    """The letter that times leave."""
    check_cases(cases)
    check_times(times)
    check_known([condition for _, condition in cases], times)
    return letter_in(cases, times)


def check_names(names):
    """Refuse what is no list of different names and "out"."""
    if not is_list(names) or not all([is_key(name) for name in names]) or not are_different(names):
        raise BadNames("names are a list of different names, or out")


def check_times(times):
    """Refuse what are no times by names."""
    if not are_times(times):
        raise BadTimes("times are a dict from names, or out, to None or numbers from 0 to 12")


def check_cases(cases):
    """Refuse what are no cases of any names and "out"."""
    if not are_cases_of(cases, None):
        raise BadCases("cases are a list of at most 3 pairs of a letter and a condition")


def check_known(conditions, times):
    """Refuse the first name in the conditions that the times do not have."""
    for condition in conditions:
        for term in condition:
            for name in names_in(term):
                if name != "start" and name not in times:
                    raise BadCondition(name)


def is_key(thing):
    """Tell whether any value may be a key of times by names."""
    return is_name(thing) or thing == "out"


def are_times(thing):
    """Tell whether any value is times by names."""
    if not isinstance(thing, dict):
        return False
    return all([is_key(name) and is_late_time(time) for name, time in thing.items()])


def is_late_time(thing):
    """Tell whether any value is a time at which something may ring, behind the round as well."""
    return thing is None or is_within(thing, 0, LAST_TIME)


def is_among(thing, names):
    """Tell whether any value is one of these names; names None stands for all of them and "out"."""
    return is_key(thing) and (names is None or thing in names)


def is_term(thing, names):
    """Tell whether any value is a term of these names, names as in is_among."""
    if is_tuple_of(thing, 2) and thing[0] in ("rings", "silent"):
        return is_among(thing[1], names)
    if not is_tuple_of(thing, 4) or thing[0] != "gap" or thing[1] == thing[2]:
        return False
    ends = [end == "start" or is_among(end, names) for end in thing[1:3]]
    return all(ends) and is_within(thing[3], -WIDEST, WIDEST)


def is_condition_of(thing, names):
    """Tell whether any value is a condition of these names, names as in is_among."""
    if not isinstance(thing, tuple) or len(thing) > MOST_TERMS:
        return False
    return all([is_term(term, names) for term in thing])


def are_cases_of(thing, names):
    """Tell whether any value is cases of these names, names as in is_among."""
    if not is_list(thing) or len(thing) > MOST_CASES:
        return False
    if not all([is_tuple_of(pair, 2) and is_name(pair[0]) for pair in thing]):
        return False
    if not are_different([letter for letter, _ in thing]):
        return False
    return all([is_condition_of(condition, names) for _, condition in thing])


def names_in(term):
    """The names in a term, from left to right, "start" among them."""
    return term[1:3]


def time_at(name, times):
    """The time of a name, or of "start"."""
    return 0 if name == "start" else times[name]


def is_term_true(term, times):
    """Tell whether a term is true for times that have all its names."""
    moments = [time_at(name, times) for name in names_in(term)]
    if term[0] == "rings":
        return moments[0] is not None
    if term[0] == "silent":
        return moments[0] is None
    return None not in moments and moments[1] >= moments[0] + term[3]


def is_true(condition, times):
    """Tell whether a condition holds for times that have all its names."""
    return all([is_term_true(term, times) for term in condition])


def letter_in(cases, times):
    """The letter of times that have all names in the cases."""
    for letter, condition in cases:
        if is_true(condition, times):
            return letter
    return "other"
