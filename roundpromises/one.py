"""One round: whether a Table keeps a task, which ones do, and what shows that none does."""

from roundpromises.checks import are_different, is_list, is_tuple_of
from roundpromises.errors import BadCondition, BadPromises, BadQuarrel, BadTask, BadWindow
from roundpromises.looks import good_times, last_looks, latest_answer, spoilers
from roundpromises.promises import MOST_PROMISES, WHICH, allowed_in, are_promises, are_window_names, check_promise
from roundpromises.rows import check_moment, check_row_of, cut, is_not_before, is_row_of, is_time, rows, times_of
from roundpromises.sights import (
    Panel,
    arrivals_in,
    check_environment,
    check_few_environments,
    environments,
    is_environment_of,
)
from roundpromises.tables import Table, check_fits, check_table, ringing
from roundpromises.terms import are_cases_of, is_condition_of, letter_in, letters_of


class Task:
    """What one round asks of the answers: promises to keep, and letters not to leave."""

    def __init__(self, panel, cases, promises, barred):
        if not isinstance(panel, Panel):
            raise BadTask("panel")
        if not are_cases_of(cases, panel.inputs + ("out",)):
            raise BadTask("cases")
        if not are_promises(promises, panel.inputs):
            raise BadTask("promises")
        if not are_letters_among(barred, letters_of(cases)):
            raise BadTask("barred")
        check_few_environments(panel)
        self.panel = panel
        self.cases = tuple(cases)
        self.promises = tuple(promises)
        self.barred = tuple(sorted(barred))
        self._ringings = {row: right_ringings(self, row) for row in rows(size_of(self), panel.length)}
        self._spoiled = spoilers(panel.length, judged_environments(self))
        self._goods = {row: good_times(panel.length, self._spoiled, row) for row in self._ringings}
        self._lasts = last_looks(self._goods) if is_kept(self) else {}

    def __eq__(self, other):
        return (
            isinstance(other, Task)
            and self.panel == other.panel
            and self.cases == other.cases
            and self.promises == other.promises
            and self.barred == other.barred
        )


def is_right(task, environment, moment):
    """Tell whether a time is right in an environment."""
    check_task(task)
    check_environment(task.panel, environment)
    check_moment(moment, task.panel.length)
    return is_right_in(task, environment, moment)


def good(task, arrivals):
    """The ascending tuple of the times that are good for a row of arrivals."""
    check_task(task)
    check_row_of(arrivals, size_of(task), task.panel.length)
    return task._goods[arrivals]


def keeps(task, table):
    """Tell whether in every environment the answer of a Table is right."""
    check_task(task)
    check_table(table)
    check_fits(task.panel, table)
    answers = table.answers()
    for environment in environments(task.panel):
        if not is_right_in(task, environment, answers[arrivals_in(task.panel, environment)]):
            return False
    return True


def earliest(task):
    """The Table that keeps the task and answers each row as early as any that does; None if none does."""
    check_task(task)
    if not is_kept(task):
        return None
    return Table(size_of(task), task.panel.length, {row: times[0] for row, times in task._goods.items()})


def latest(task):
    """The Table that keeps the task and answers each row as late as any that does; None if none does."""
    check_task(task)
    if not is_kept(task):
        return None
    answers = {row: latest_answer(task._goods, task._lasts, row) for row in task._goods}
    return Table(size_of(task), task.panel.length, answers)


def had(task, arrivals):
    """The ascending tuple of the times with which Tables that keep the task answer a row of arrivals."""
    check_task(task)
    check_row_of(arrivals, size_of(task), task.panel.length)
    if not is_kept(task):
        return ()
    last = latest_answer(task._goods, task._lasts, arrivals)
    return tuple([time for time in task._goods[arrivals] if is_not_before(last, time)])


def quarrel(task):
    """A row of arrivals, and for each time an environment that speaks against it; None if there is none."""
    check_task(task)
    for row, times in task._goods.items():
        if not times:
            return row, {time: task._spoiled[(time, cut(row, time))] for time in times_of(task.panel.length)}
    return None


def is_quarrel(task, thing):
    """Tell whether any value is a quarrel of a task."""
    check_task(task)
    panel = task.panel
    if not is_tuple_of(thing, 2) or not is_row_of(thing[0], size_of(task), panel.length):
        return False
    arrivals, answers = thing
    if not isinstance(answers, dict) or len(answers) != len(times_of(panel.length)):
        return False
    if not all([is_time(time, panel.length) for time in answers.keys()]):
        return False
    return all([speaks_against(task, arrivals, time, environment) for time, environment in answers.items()])


def against(task, quarrel, table):
    """The environment of a quarrel that speaks against the answer of a Table to its arrivals."""
    check_task(task)
    if not is_quarrel(task, quarrel):
        raise BadQuarrel("a quarrel is a pair of arrivals and, for each time, an environment against it")
    check_table(table)
    check_fits(task.panel, table)
    arrivals, answers = quarrel
    return answers[table.answer(arrivals)]


def on_top(task, promise):
    """Tell whether some Table keeps the task with a promise more."""
    check_task(task)
    check_promise(promise, task.panel.inputs)
    check_room(task)
    return is_kept(with_promise(task, promise))


def tightest(task, condition, which, names):
    """The ascending list of the least windows (low, high) with which the task can be kept with a promise more."""
    check_task(task)
    if not is_condition_of(condition, task.panel.inputs):
        raise BadCondition(None)
    if which not in WHICH:
        raise BadWindow("the first part of a window is first, last or latest")
    if not are_window_names(names, task.panel.inputs):
        raise BadWindow("the second part of a window is a tuple of inputs or of start")
    check_room(task)
    found = []
    high = -task.panel.length
    for low in range(-task.panel.length, task.panel.length + 1):
        # A window that begins later cannot do with an earlier end: so the search goes on from the last end.
        high = least_high(task, condition, (which, names), low, max(low, high))
        if high is None:
            break
        found = [pair for pair in found if pair[1] < high] + [(low, high)]
    return found


def check_task(task):
    """Refuse what is no Task."""
    if not isinstance(task, Task):
        raise BadTask(None)


def check_room(task):
    """Refuse a task that has no room for a promise more."""
    if len(task.promises) == MOST_PROMISES:
        raise BadPromises(None)


def are_letters_among(thing, letters):
    """Tell whether any value is a list of different ones of these letters."""
    if not is_list(thing) or not all([letter in letters for letter in thing]):
        return False
    return are_different(thing)


def size_of(task):
    """How many inputs a task has."""
    return len(task.panel.inputs)


def is_kept(task):
    """Tell whether some Table keeps a task: exactly if each row has a good time."""
    return all([len(times) > 0 for times in task._goods.values()])


def with_promise(task, promise):
    """The Task with a promise more."""
    return Task(task.panel, task.cases, task.promises + (promise,), task.barred)


def least_high(task, condition, beginning, low, start):
    """The least high, from start on, with which the task can be kept with the promise of this window; or None."""
    for high in range(start, task.panel.length + 1):
        if is_kept(with_promise(task, (condition, beginning + (low, high)))):
            return high
    return None


def right_ringings(task, row):
    """The times at which the output may ring in an environment with this row, late by the slip or not."""
    inputs = task.panel.inputs
    span, may = allowed_in(task.promises, inputs, row)
    found = [] if span is None else list(range(span[0], span[1] + 1))
    found += [None] if may else []
    if not task.barred:
        return tuple(found)
    times = dict(zip(inputs, row))
    return tuple([time for time in found if letter_in(task.cases, {**times, "out": time}) not in task.barred])


def is_right_in(task, environment, moment):
    """What is_right tells, of values that are known to be right."""
    return ringing(moment, environment) in task._ringings[environment[0]]


def judged_environments(task):
    """For each environment of a task the triple of it, its arrivals and the times that are right in it."""
    found = []
    for environment in environments(task.panel):
        right = [time for time in times_of(task.panel.length) if is_right_in(task, environment, time)]
        found.append((environment, arrivals_in(task.panel, environment), right))
    return found


def speaks_against(task, arrivals, time, environment):
    """Tell whether any value is an environment that looks like arrivals until a time that is wrong in it."""
    if not is_environment_of(task.panel, environment):
        return False
    looks = cut(arrivals_in(task.panel, environment), time) == cut(arrivals, time)
    return looks and not is_right_in(task, environment, time)
