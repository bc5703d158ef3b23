"""Looks: what can be answered to each row of arrivals, given which times are right where.

A *look* is a pair (time, row): all that is heard until a time, the row being cut there. A time that is
wrong in some environment *spoils* the look that this environment has until then.
"""

from roundpromises.rows import cut, times_of


def spoilers(length, judged):
    """The dict from all spoiled looks to the first environment that spoils each.

    Judged is a list of triples: an environment, its arrivals, and the times that are right in it.
    """
    found = {}
    for environment, arrivals, right in judged:
        for time in times_of(length):
            if time not in right:
                found.setdefault((time, cut(arrivals, time)), environment)
    return found


def good_times(length, spoiled, row):
    """The ascending tuple of the times whose looks a row of arrivals does not find spoiled."""
    return tuple([time for time in times_of(length) if (time, cut(row, time)) not in spoiled])


def last_looks(goods):
    """The looks at which some row has its last good time: a dict of True.

    Goods is a dict from all rows to their good times, none of them without one.
    """
    return {(times[-1], cut(row, times[-1])): True for row, times in goods.items()}


def latest_answer(goods, lasts, row):
    """The first good time of a row at which some row that looks alike has its last one."""
    ends = [time for time in goods[row] if (time, cut(row, time)) in lasts]
    return ends[0]
