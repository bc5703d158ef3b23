"""Tables: what a controller answers to what it hears, never hanging on what comes later."""

from roundpromises.checks import is_within
from roundpromises.errors import BadTable, OtherTables
from roundpromises.rows import (
    LONGEST,
    MOST_INPUTS,
    check_length,
    check_moment,
    check_row_of,
    check_size,
    cut,
    is_not_before,
    is_row_of,
    is_time,
    rows,
)
from roundpromises.sights import arrivals_in, check_environment, check_panel


class Table:
    """An answer, a time, to each row of arrivals of a size and a length."""

    def __init__(self, size, length, answers):
        if not is_within(size, 1, MOST_INPUTS):
            raise BadTable("size")
        if not is_within(length, 1, LONGEST):
            raise BadTable("length")
        every = rows(size, length)
        if not are_answers(answers, every, size, length):
            raise BadTable("answers")
        self.size = size
        self.length = length
        self._answers = {row: answers[row] for row in every}

    def __eq__(self, other):
        return (
            isinstance(other, Table)
            and self.size == other.size
            and self.length == other.length
            and self._answers == other._answers
        )

    def answers(self):
        """The dict from all rows to the answers."""
        return {row: self._answers[row] for row in self._answers}

    def answer(self, arrivals):
        """The answer to a row of arrivals."""
        check_row_of(arrivals, self.size, self.length)
        return self._answers[arrivals]


def constant(size, length, moment):
    """The Table that always answers a moment, or never."""
    check_size(size)
    check_length(length)
    check_moment(moment, length)
    return Table(size, length, {row: moment for row in rows(size, length)})


def sooner(one, other):
    """The Table with the earlier of both answers to each row."""
    check_alike(one, other)
    return Table(one.size, one.length, {row: earlier_answer(one, other, row) for row in rows(one.size, one.length)})


def later(one, other):
    """The Table with the later of both answers to each row."""
    check_alike(one, other)
    return Table(one.size, one.length, {row: later_answer(one, other, row) for row in rows(one.size, one.length)})


def rung(panel, table, environment):
    """When the output rings in an environment, the table answering."""
    check_panel(panel)
    check_table(table)
    check_fits(panel, table)
    check_environment(panel, environment)
    return ringing(table.answer(arrivals_in(panel, environment)), environment)


def check_table(table):
    """Refuse what is no Table."""
    if not isinstance(table, Table):
        raise BadTable(None)


def check_alike(one, other):
    """Refuse what are no Tables of one size and length."""
    check_table(one)
    check_table(other)
    if one.size != other.size or one.length != other.length:
        raise OtherTables("both tables have one size and one length")


def check_fits(panel, table):
    """Refuse a Table that has not the size and the length of a panel."""
    if table.size != len(panel.inputs) or table.length != panel.length:
        raise OtherTables("the table has the size and the length of the panel")


def are_answers(thing, every, size, length):
    """Tell whether any value is the answers of a Table; every is the list of all its rows."""
    if not isinstance(thing, dict) or len(thing) != len(every):
        return False
    if not all([is_row_of(row, size, length) and is_time(time, length) for row, time in thing.items()]):
        return False
    return all([is_settled(thing, row) for row in every])


def is_settled(answers, row):
    """Tell whether a row has a moment as its answer exactly if its look until then, itself a row, has it.

    All rows that look alike until a moment have one look, so they all have that answer, or none of them.
    """
    starts = sorted(set([0] + [time for time in row if time is not None]))
    # From the last start on the row is its own look.
    for start, end in zip(starts, starts[1:]):
        looks = answers[cut(row, start)]
        if looks != answers[row] and (is_from(looks, start, end) or is_from(answers[row], start, end)):
            return False
    return True


def is_from(time, start, end):
    """Tell whether a time is a moment from a start on and before an end."""
    return time is not None and start <= time < end


def earlier_answer(one, other, row):
    """The earlier of the answers of two Tables to a row."""
    return other.answer(row) if is_not_before(one.answer(row), other.answer(row)) else one.answer(row)


def later_answer(one, other, row):
    """The later of the answers of two Tables to a row."""
    return one.answer(row) if is_not_before(one.answer(row), other.answer(row)) else other.answer(row)


def ringing(moment, environment):
    """When the output rings that is rung at a time in an environment: late by the slip."""
    return None if moment is None else moment + environment[2]
