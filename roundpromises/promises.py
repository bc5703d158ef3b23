"""Promises: when the output of a round must ring, and when it must not."""

from roundpromises.checks import is_ascending, is_list, is_name, is_tuple_of, is_within
from roundpromises.errors import BadInputs, BadPromise, BadPromises
from roundpromises.rows import LONGEST, MOST_INPUTS, check_length, check_row_of, rows, time_by
from roundpromises.terms import WIDEST, is_condition_of, is_true

MOST_PROMISES = 6
LAST_RINGING = 10
WHICH = ("first", "last", "latest")
NEVER = ("never",)
START = ("start",)


def is_promise(thing, inputs):
    """Tell whether any value is a promise for inputs."""
    check_inputs(inputs)
    return is_promise_for(thing, inputs)


def asked(promise, inputs, row):
    """What a promise asks in a row: None for nothing, "never", or a pair of numbers."""
    check_inputs(inputs)
    check_promise(promise, inputs)
    check_row_of(row, len(inputs), LONGEST)
    return asked_in(promise, inputs, row)


def allowed(promises, inputs, row):
    """The span at which the output may ring by all promises, and whether it may never ring."""
    check_inputs(inputs)
    check_promises(promises, inputs)
    check_row_of(row, len(inputs), LONGEST)
    return allowed_in(promises, inputs, row)


def is_stronger(one, other, inputs, length):
    """Tell whether in each row all that one list allows is allowed by the other one."""
    return parting_row(one, other, inputs, length) is None


def parting_row(one, other, inputs, length):
    """The least row in which one list allows what the other one does not; None if there is none."""
    check_inputs(inputs)
    check_promises(one, inputs)
    check_promises(other, inputs)
    check_length(length)
    for row in rows(len(inputs), length):
        span, may = allowed_in(one, inputs, row)
        other_span, other_may = allowed_in(other, inputs, row)
        if (may and not other_may) or not is_part_of(clipped(span, length + 2), other_span):
            return row
    return None


def check_inputs(inputs):
    """Refuse what is no ascending tuple of 1 to 3 names."""
    if not are_inputs(inputs):
        raise BadInputs("inputs are an ascending tuple of 1 to 3 different names")


def check_promise(promise, inputs):
    """Refuse what is no promise for inputs."""
    if not is_promise_for(promise, inputs):
        raise BadPromise("a promise is a pair of a condition and a window for the inputs")


def check_promises(promises, inputs):
    """Refuse what is no list of at most 6 promises for inputs."""
    if not is_list(promises) or len(promises) > MOST_PROMISES:
        raise BadPromises(None)
    for at, promise in enumerate(promises):
        if not is_promise_for(promise, inputs):
            raise BadPromises(at)


def are_inputs(thing):
    """Tell whether any value is an ascending tuple of 1 to 3 different names."""
    if not isinstance(thing, tuple) or not 1 <= len(thing) <= MOST_INPUTS:
        return False
    return all([is_name(name) for name in thing]) and is_ascending(thing)


def is_promise_for(thing, inputs):
    """Tell whether any value is a promise for inputs that are known to be such."""
    return is_tuple_of(thing, 2) and is_condition_of(thing[0], inputs) and is_window(thing[1], inputs)


def are_promises(thing, inputs):
    """Tell whether any value is a list of at most 6 promises for inputs."""
    if not is_list(thing) or len(thing) > MOST_PROMISES:
        return False
    return all([is_promise_for(promise, inputs) for promise in thing])


def is_window(thing, inputs):
    """Tell whether any value is a window for inputs."""
    if thing == NEVER:
        return True
    if not is_tuple_of(thing, 4) or thing[0] not in WHICH or not are_window_names(thing[1], inputs):
        return False
    return all([is_within(end, -WIDEST, WIDEST) for end in thing[2:]]) and thing[2] <= thing[3]


def are_window_names(thing, inputs):
    """Tell whether any value is an ascending tuple of one or more inputs, or that of "start" alone."""
    if thing == START:
        return True
    if not isinstance(thing, tuple) or not thing:
        return False
    return all([name in inputs for name in thing]) and is_ascending(thing)


def asked_in(promise, inputs, row):
    """What asked tells, of values that are known to be right."""
    return asked_at(promise, dict(zip(inputs, row)))


def asked_at(promise, times):
    """What a promise asks at the times of the inputs, a dict from their names."""
    condition, window = promise
    if not is_true(condition, times):
        return None
    if window == NEVER:
        return "never"
    which, names, low, high = window
    time = 0 if names == START else time_by(which, [times[name] for name in names])
    return None if time is None else (time + low, time + high)


def allowed_in(promises, inputs, row):
    """What allowed tells, of values that are known to be right."""
    low, high, may = span_at(promises, dict(zip(inputs, row)))
    return ((low, high) if low <= high else None), may


def span_at(promises, times):
    """The first and the last ringing, none if they fall, that promises allow, and whether it may never ring."""
    low, high, may = 0, LAST_RINGING, True
    for promise in promises:
        asks = asked_at(promise, times)
        if asks == "never":
            high = -1
        elif asks is not None:
            low, high, may = max(low, asks[0]), min(high, asks[1]), False
    return low, high, may


def clipped(span, last):
    """The part of a span that is not later than the last number; None if there is none."""
    if span is None or span[0] > last:
        return None
    return span[0], min(span[1], last)


def is_part_of(span, other):
    """Tell whether all numbers of a span, which may be None, are in the other one."""
    if span is None:
        return True
    return other is not None and other[0] <= span[0] and span[1] <= other[1]
