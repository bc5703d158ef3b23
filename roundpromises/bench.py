"""A bench for a bought controller: what tries show of a Table that is not known."""

from roundpromises.checks import is_list, is_tuple_of
from roundpromises.errors import BadTries
from roundpromises.one import check_task, size_of
from roundpromises.rows import check_length, check_row_of, check_size, cut, is_row_of, is_time, rows, times_of
from roundpromises.tables import check_table


def first_wrong_try(size, length, tries):
    """The index of the first try with which, and those ahead of it, no Table agrees; None if the tries agree."""
    check_size(size)
    check_length(length)
    check_tries(size, length, tries)
    return wrong_try(length, tries)


def may_answer(size, length, tries, arrivals):
    """The ascending tuple of the times with which Tables that agree with all tries answer a row of arrivals."""
    check_agreeing(size, length, tries)
    check_row_of(arrivals, size, length)
    return tuple(open_times(length, tries, arrivals))


def next_try(size, length, tries):
    """The least of the rows with the most times that may be answered; None if each row has just one."""
    check_agreeing(size, length, tries)
    found = None
    most = 1
    for row in rows(size, length):
        many = len(open_times(length, tries, row))
        if many > most:
            found = row
            most = many
    return found


def tries_needed(table):
    """The least number of tries with which no other Table agrees."""
    check_table(table)
    return len(set([(cut(row, time), time) for row, time in table.answers().items()]))


def surely_keeps(task, tries):
    """Tell whether all Tables that agree with the tries keep the task."""
    check_task(task)
    check_agreeing(size_of(task), task.panel.length, tries)
    return all([all([time in right for time in times]) for times, right in open_and_good(task, tries)])


def surely_breaks(task, tries):
    """Tell whether no Table that agrees with the tries keeps the task."""
    check_task(task)
    check_agreeing(size_of(task), task.panel.length, tries)
    # The Table that answers each row with its least time that is open and good agrees and keeps the task.
    return not all([any([time in right for time in times]) for times, right in open_and_good(task, tries)])


def check_tries(size, length, tries):
    """Refuse what is no list of tries for a size and a length that are known to be such."""
    if not is_list(tries):
        raise BadTries(None)
    for at, thing in enumerate(tries):
        if not is_tuple_of(thing, 2) or not is_row_of(thing[0], size, length) or not is_time(thing[1], length):
            raise BadTries(at)


def check_agreeing(size, length, tries):
    """Refuse what is no size, no length, and no tries or ones that do not agree."""
    wrong = first_wrong_try(size, length, tries)
    if wrong is not None:
        raise BadTries(wrong)


def wrong_try(length, tries):
    """What first_wrong_try tells, of values that are known to be right."""
    for at, (arrivals, time) in enumerate(tries):
        if time not in open_times(length, tries[:at], arrivals):
            return at
    return None


def open_times(length, tries, arrivals):
    """The times that are left for a row of arrivals by tries that agree."""
    first = 0
    for heard, time in tries:
        parting = parting_moment(arrivals, heard)
        if parting is None or (time is not None and time < parting):
            return [time]
        # Any moment at which both still look alike would have been answered there as well.
        first = max(first, parting)
    return times_of(length)[first:]


def parting_moment(row, other):
    """The first moment until which two rows do not look alike; None if they are the same row."""
    ends = [min(times) for times in both_times(row, other)]
    return min(ends, default=None)


def both_times(row, other):
    """For each place at which two rows differ the list of the moments that they have there."""
    return [[time for time in pair if time is not None] for pair in zip(row, other) if pair[0] != pair[1]]


def open_and_good(task, tries):
    """For each row the pair of the times that are open to it and of those that are good for it."""
    length = task.panel.length
    return [(open_times(length, tries, row), task._answers[row]) for row in rows(size_of(task), length)]
