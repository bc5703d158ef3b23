"""Tables: what a controller answers to what it hears, never hanging on what comes later."""

from roundpromises.checks import is_within
from roundpromises.errors import BadTable, OtherTables
from roundpromises.rows import LONGEST, MOST_INPUTS, check_length, check_moment, check_row_of, check_size, rows
from roundpromises.sights import arrivals_in, check_environment, check_panel

# What is no time of any length.
NO_ANSWER = ""


class Known:
    """Answers that are known to be those of a Table: a dict of its own from all rows, ascending."""

    def __init__(self, told):
        self.told = told


class Table:
    """An answer, a time, to each row of arrivals of a size and a length."""

    def __init__(self, size, length, answers):
        if not is_within(size, 1, MOST_INPUTS):
            raise BadTable("size")
        if not is_within(length, 1, LONGEST):
            raise BadTable("length")
        self.size = size
        self.length = length
        # What the program has put together itself need not be judged.
        self._answers = answers.told if isinstance(answers, Known) else judged_answers(answers, size, length)

    def __eq__(self, other):
        return (
            isinstance(other, Table)
            and self.size == other.size
            and self.length == other.length
            and self._answers == other._answers
        )

    def answers(self):
        """The dict from all rows to the answers."""
        return {row: self._answers[row] for row in self._answers}

    def answer(self, arrivals):
        """The answer to a row of arrivals."""
        check_row_of(arrivals, self.size, self.length)
        return self._answers[arrivals]


def constant(size, length, moment):
    """The Table that always answers a moment, or never."""
    check_size(size)
    check_length(length)
    check_moment(moment, length)
    return known_table(size, length, {row: moment for row in rows(size, length)})


def sooner(one, other):
    """The Table with the earlier of both answers to each row."""
    check_alike(one, other)
    answers = {row: earlier_time(time, other._answers[row]) for row, time in one._answers.items()}
    return known_table(one.size, one.length, answers)


def later(one, other):
    """The Table with the later of both answers to each row."""
    check_alike(one, other)
    answers = {row: later_time(time, other._answers[row]) for row, time in one._answers.items()}
    return known_table(one.size, one.length, answers)


def rung(panel, table, environment):
    """When the output rings in an environment, the table answering."""
    check_panel(panel)
    check_table(table)
    check_fits(panel, table)
    check_environment(panel, environment)
    return ringing(table.answer(arrivals_in(panel, environment)), environment)


def check_table(table):
    """Refuse what is no Table."""
    if not isinstance(table, Table):
        raise BadTable(None)


def check_alike(one, other):
    """Refuse what are no Tables of one size and length."""
    check_table(one)
    check_table(other)
    if one.size != other.size or one.length != other.length:
        raise OtherTables("both tables have one size and one length")


def check_fits(panel, table):
    """Refuse a Table that has not the size and the length of a panel."""
    if table.size != len(panel.inputs) or table.length != panel.length:
        raise OtherTables("the table has the size and the length of the panel")


def known_table(size, length, answers):
    """The Table with these answers, which are known to be those of one; nobody changes the dict any more."""
    return Table(size, length, Known(answers))


def judged_answers(thing, size, length):
    """The dict from all rows, ascending, to the answers of a Table; what are none of any is refused."""
    every = rows(size, length)
    if not isinstance(thing, dict) or len(thing) != len(every):
        raise BadTable("answers")
    told = [thing.get(row, NO_ANSWER) for row in every]
    # With answers to all of the rows the dict has no other keys, but True may stand for 1 in them.
    if not are_moments(told, length) or has_bools(thing) or not are_settled(told, size, length):
        raise BadTable("answers")
    return dict(zip(every, told))


def are_moments(things, length):
    """Tell whether all values of a list are times of a length."""
    moments = list(range(length + 1))
    return all([thing is None or (thing in moments and not isinstance(thing, bool)) for thing in things])


def has_bools(every):
    """Tell whether some time of some rows is a bool."""
    return any([time is True or time is False for row in every for time in row])


def are_settled(told, size, length):
    """Tell whether times, in the order of all rows, are the answers of a Table.

    A row and the one with never in one place look alike until each time ahead of the moment that it has there: so
    they have the same answer, or both a later one. Such steps lead to and fro between all rows that look alike.
    """
    many = length + 2
    late = [many if time is None else time for time in told]
    # Rows stand so far apart that have neighbouring times in one place: the last one at first.
    apart = 1
    for _ in range(size):
        never = []
        for start in range(apart * (many - 1), len(late), apart * many):
            never += late[start : start + apart] * many
        moments = [moment for moment in range(many) for _ in range(apart)] * (len(late) // (apart * many))
        if any([one != other and min(one, other) < moment for one, other, moment in zip(late, never, moments)]):
            return False
        apart = apart * many
    return True


def earlier_time(time, other):
    """The earlier one of two times."""
    return other if time is None or (other is not None and other < time) else time


def later_time(time, other):
    """The later one of two times."""
    return None if time is None or other is None else max(time, other)


def ringing(moment, environment):
    """When the output rings that is rung at a time in an environment: late by the slip."""
    return None if moment is None else moment + environment[2]
