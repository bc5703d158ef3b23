"""Rows: tuples of the times at which the inputs of a round ring; None is never."""

from roundpromises.checks import is_ascending, is_within
from roundpromises.errors import BadLength, BadMoment, BadPlaces, BadRow, BadSize

LONGEST = 8
MOST_INPUTS = 3


def is_row(thing, length):
    """Tell whether any value is a row of a length."""
    check_length(length)
    return is_plain_row(thing, length)


def rows(size, length):
    """The ascending list of all rows of a size and a length."""
    check_size(size)
    check_length(length)
    times = times_of(length)
    found = [()]
    for _ in range(size):
        found = [row + (time,) for row in found for time in times]
    return found


def first_of(row, places):
    """The earliest of the times at the places."""
    check_places(row, places)
    return time_by("first", [row[place] for place in places])


def last_of(row, places):
    """The last of the times at the places: never if one of them is never."""
    check_places(row, places)
    return time_by("last", [row[place] for place in places])


def latest_of(row, places):
    """The last of the times at the places that are moments: never if none is."""
    check_places(row, places)
    return time_by("latest", [row[place] for place in places])


def until(row, moment):
    """The row with never in the place of each time that is later than the moment."""
    check_row(row, LONGEST)
    check_moment(moment, LONGEST)
    return cut(row, moment)


def check_length(length):
    """Refuse what is no length."""
    if not is_within(length, 1, LONGEST):
        raise BadLength("a length is a number from 1 to 8")


def check_size(size):
    """Refuse what is no size."""
    if not is_within(size, 1, MOST_INPUTS):
        raise BadSize("a size is a number from 1 to 3")


def check_row(row, length):
    """Refuse what is no row of a length, of whatever size."""
    if not is_plain_row(row, length):
        raise BadRow("a row is a tuple of 1 to 3 times of its length")


def check_row_of(row, size, length):
    """Refuse what is no row of a size and a length."""
    if not is_row_of(row, size, length):
        raise BadRow("a row is a tuple of as many times of its length as its size tells")


def check_moment(moment, length):
    """Refuse what is no time of a length."""
    if not is_time(moment, length):
        raise BadMoment("a time is None or a moment of the round")


def check_places(row, places):
    """Refuse what is no row, then what are no places of it."""
    check_row(row, LONGEST)
    if not are_places(places, len(row)):
        raise BadPlaces("places are an ascending tuple of one or more indexes of the row")


def are_places(thing, size):
    """Tell whether any value is an ascending tuple of indexes of rows of a size."""
    if not isinstance(thing, tuple) or not thing:
        return False
    return all([is_within(place, 0, size - 1) for place in thing]) and is_ascending(thing)


def is_time(thing, length):
    """Tell whether any value is a time of a length."""
    return thing is None or is_within(thing, 0, length)


def is_plain_row(thing, length):
    """Tell whether any value is a row of a length that is known to be one."""
    if not isinstance(thing, tuple) or not 1 <= len(thing) <= MOST_INPUTS:
        return False
    return all([time is None or is_within(time, 0, length) for time in thing])


def is_row_of(thing, size, length):
    """Tell whether any value is a row of a size and a length that are known to be such."""
    return is_plain_row(thing, length) and len(thing) == size


def times_of(length):
    """The ascending list of the times of a length."""
    return list(range(length + 1)) + [None]


def time_by(which, times):
    """The "first", the "last" or the "latest" of some times."""
    moments = [time for time in times if time is not None]
    if which == "first":
        return min(moments, default=None)
    if which == "last" and len(moments) < len(times):
        return None
    return max(moments, default=None)


def cut(row, moment):
    """What until tells, of a row and a time that are known to be such."""
    if moment is None:
        return row
    return tuple([time if time is not None and time <= moment else None for time in row])


def is_not_before(time, other):
    """Tell whether a time is the other one, or later; never is later than all moments."""
    return time is None or (other is not None and time >= other)
