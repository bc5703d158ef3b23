"""One round: whether a Table keeps a task, which ones do, and what shows that none does."""

from roundpromises.bits import allowed_bits, letter_bits, ringing_bit, time_bit, wrong_times
from roundpromises.checks import are_different, is_list
from roundpromises.errors import BadCondition, BadPromises, BadQuarrel, BadTask, BadWindow
from roundpromises.looks import (
    earliest_table,
    good_times,
    heard_wrongs,
    is_answered_rightly,
    is_strife,
    last_times,
    latest_time,
    lay_of,
    look_until,
    table_of,
    told_times,
)
from roundpromises.promises import MOST_PROMISES, WHICH, are_promises, are_window_names, check_promise
from roundpromises.rows import check_moment, check_row_of, times_of
from roundpromises.sights import Panel, bringing, check_environment, check_few_environments
from roundpromises.tables import check_fits, check_table
from roundpromises.terms import are_cases_of, is_condition_of, letters_of


class Task:
    """What one round asks of the answers: promises to keep, and letters not to leave."""

    def __init__(self, panel, cases, promises, barred):
        if not isinstance(panel, Panel):
            raise BadTask("panel")
        if not are_cases_of(cases, panel.inputs + ("out",)):
            raise BadTask("cases")
        if not are_promises(promises, panel.inputs):
            raise BadTask("promises")
        if not are_letters_among(barred, letters_of(cases)):
            raise BadTask("barred")
        check_few_environments(panel)
        self.panel = panel
        self.cases = tuple(cases)
        self.promises = tuple(promises)
        self.barred = tuple(sorted(barred))
        lay = lay_of(panel)
        self._ringings = [right_ringings(self, row) for row in lay.rows]
        self._wrongs = [wrong_times(ringings, panel.length, panel.slip) for ringings in self._ringings]
        self._heard_wrongs = heard_wrongs(lay, self._wrongs)
        self._goods = good_times(lay, self._heard_wrongs)
        self._answers = {row: told_times(lay, bits) for row, bits in zip(lay.rows, self._goods)}
        self._lasts = last_times(lay, self._goods) if is_kept(self) else []
        self._quarrel = None if is_kept(self) else found_quarrel(self, self._goods.index(0))

    def __eq__(self, other):
        return (
            isinstance(other, Task)
            and self.panel == other.panel
            and self.cases == other.cases
            and self.promises == other.promises
            and self.barred == other.barred
        )


def is_right(task, environment, moment):
    """Tell whether a time is right in an environment."""
    check_task(task)
    check_environment(task.panel, environment)
    check_moment(moment, task.panel.length)
    return is_right_in(task, environment, moment)


def good(task, arrivals):
    """The ascending tuple of the times that are good for a row of arrivals."""
    check_task(task)
    check_row_of(arrivals, size_of(task), task.panel.length)
    return task._answers[arrivals]


def keeps(task, table):
    """Tell whether in every environment the answer of a Table is right."""
    check_task(task)
    check_table(table)
    check_fits(task.panel, table)
    return is_answered_rightly(lay_of(task.panel), task._heard_wrongs, table.answers())


def earliest(task):
    """The Table that keeps the task and answers each row as early as any that does; None if none does."""
    check_task(task)
    return earliest_table(lay_of(task.panel), task._goods) if is_kept(task) else None


def latest(task):
    """The Table that keeps the task and answers each row as late as any that does; None if none does."""
    check_task(task)
    return table_of(lay_of(task.panel), latest_times(task)) if is_kept(task) else None


def had(task, arrivals):
    """The ascending tuple of the times with which Tables that keep the task answer a row of arrivals."""
    check_task(task)
    check_row_of(arrivals, size_of(task), task.panel.length)
    return had_at(task, lay_of(task.panel).places[arrivals])


def quarrel(task):
    """A row of arrivals, and for each time an environment that speaks against it; None if there is none."""
    check_task(task)
    if is_kept(task):
        return None
    arrivals, answers = task._quarrel
    return arrivals, dict(answers)


def is_quarrel(task, thing):
    """Tell whether any value is a quarrel of a task."""
    check_task(task)
    return is_strife(task.panel, thing, lambda time, environment: not is_right_in(task, environment, time))


def against(task, quarrel, table):
    """The environment of a quarrel that speaks against the answer of a Table to its arrivals."""
    check_task(task)
    if not is_quarrel(task, quarrel):
        raise BadQuarrel("a quarrel is a pair of arrivals and, for each time, an environment against it")
    check_table(table)
    check_fits(task.panel, table)
    arrivals, answers = quarrel
    return answers[table.answer(arrivals)]


def on_top(task, promise):
    """Tell whether some Table keeps the task with a promise more."""
    check_task(task)
    check_promise(promise, task.panel.inputs)
    check_room(task)
    return is_kept(with_promise(task, promise))


def tightest(task, condition, which, names):
    """The ascending list of the least windows (low, high) with which the task can be kept with a promise more."""
    check_task(task)
    if not is_condition_of(condition, task.panel.inputs):
        raise BadCondition(None)
    if which not in WHICH:
        raise BadWindow("the first part of a window is first, last or latest")
    if not are_window_names(names, task.panel.inputs):
        raise BadWindow("the second part of a window is a tuple of inputs or of start")
    check_room(task)
    found = []
    high = -task.panel.length
    for low in range(-task.panel.length, task.panel.length + 1):
        # A window that begins later cannot do with an earlier end: so the search goes on from the last end.
        high = least_high(task, condition, (which, names), low, max(low, high))
        if high is None:
            break
        found = [pair for pair in found if pair[1] < high] + [(low, high)]
    return found


def check_task(task):
    """Refuse what is no Task."""
    if not isinstance(task, Task):
        raise BadTask(None)


def check_room(task):
    """Refuse a task that has no room for a promise more."""
    if len(task.promises) == MOST_PROMISES:
        raise BadPromises(None)


def are_letters_among(thing, letters):
    """Tell whether any value is a list of different ones of these letters."""
    if not is_list(thing) or not all([letter in letters for letter in thing]):
        return False
    return are_different(thing)


def size_of(task):
    """How many inputs a task has."""
    return len(task.panel.inputs)


def is_kept(task):
    """Tell whether some Table keeps a task: exactly if each row has a good time."""
    return 0 not in task._goods


def latest_times(task):
    """For each row of arrivals the bit of the latest answer, in a task that some Table keeps."""
    lay = lay_of(task.panel)
    return [latest_time(lay, task._goods, task._lasts, at) for at in range(len(lay.rows))]


def had_at(task, at):
    """What had tells, of a row of arrivals told by its place."""
    if not is_kept(task):
        return ()
    lay = lay_of(task.panel)
    last = latest_time(lay, task._goods, task._lasts, at)
    return told_times(lay, task._goods[at] & (2 * last - 1))


def table_having(task, arrivals, moment):
    """A Table that keeps the task and answers a row of arrivals with a time that had tells for it.

    It is the latest one, but that what looks like the arrivals until this time is answered with it: that is good
    for all such rows, and none of them has an earlier answer, as the arrivals would have it too.
    """
    lay = lay_of(task.panel)
    bit = time_bit(moment, lay.length)
    answers = latest_times(task)
    for at, times in lay.members[look_until(lay, lay.places[arrivals], bit)]:
        if times & bit:
            answers[at] = bit
    return table_of(lay, answers)


def with_promise(task, promise):
    """The Task with a promise more."""
    return Task(task.panel, task.cases, task.promises + (promise,), task.barred)


def least_high(task, condition, beginning, low, start):
    """The least high, from start on, with which the task can be kept with the promise of this window; or None."""
    for high in range(start, task.panel.length + 1):
        if is_kept(with_promise(task, (condition, beginning + (low, high)))):
            return high
    return None


def right_ringings(task, row):
    """The ringings that are right in an environment with this row."""
    times = dict(zip(task.panel.inputs, row))
    found = allowed_bits(task.promises, times)
    if not task.barred:
        return found
    for letter, bits in zip(letters_of(task.cases), letter_bits(task.cases, times)):
        if letter in task.barred:
            found = found & ~bits
    return found


def is_right_in(task, environment, moment):
    """What is_right tells, of values that are known to be right."""
    row, _, slip = environment
    return task._ringings[lay_of(task.panel).places[row]] & ringing_bit(moment, slip) != 0


def found_quarrel(task, at):
    """A quarrel about a row of arrivals that has no good time."""
    lay = lay_of(task.panel)
    answers = {time: spoiling(task, at, 1 << place, time) for place, time in enumerate(times_of(lay.length))}
    return lay.rows[at], answers


def spoiling(task, at, bit, time):
    """An environment that spoils the look of a row until a time, which has this bit."""
    lay = lay_of(task.panel)
    for arrivals, times in lay.members[look_until(lay, at, bit)]:
        if task._heard_wrongs[arrivals] & times & bit:
            return environment_against(task, arrivals, bit, time)
    return None


def environment_against(task, arrivals, bit, time):
    """An environment that brings a row of arrivals, told by its place, and in which a time with this bit is wrong."""
    lay = lay_of(task.panel)
    bringers = [row for row in lay.bringers[arrivals] if task._wrongs[row] & bit]
    row = bringers[0]
    wrong = [slip for slip in range(task.panel.slip + 1) if not task._ringings[row] & ringing_bit(time, slip)]
    return bringing(task.panel, lay.rows[row], lay.rows[arrivals], wrong[0])
