"""Plays: the rounds of whoever keeps a works for ever, and whether all of them keep another works too."""

from roundpromises.checks import is_list, is_tuple_of
from roundpromises.courses import course_to_break, first_broken_pair, met_pairs
from roundpromises.errors import BadPlay
from roundpromises.ever import good_modes, is_lasting, lost_letters
from roundpromises.looks import lay_of
from roundpromises.machines import least_machine, machine_with
from roundpromises.modes import letter_at, table_with, task_with
from roundpromises.one import had_at, table_having
from roundpromises.rows import is_time
from roundpromises.sights import arrivals_in, is_environment_of
from roundpromises.works import check_like_works, check_works

MOST_FOLLOWED = 8


def is_play(works, thing):
    """Tell whether any value is a play of a works."""
    check_works(works)
    return is_play_of(works, thing)


def carries(one, other):
    """Tell whether in every play of one each round keeps the promises of the other one as well."""
    return escape(one, other) is None


def escape(one, other):
    """A shortest play of one whose last round breaks a promise of the other one; None if there is none."""
    check_like_works(one, other)
    states = [(answers_in(one, mode), one._ways[mode]) for mode in range(len(one))]
    met = met_pairs(other, states)
    pair = first_broken_pair(other, states, met)
    if pair is None:
        return None
    course = course_to_break(other, states, met, pair)
    return [(environment, moment, one.letters[letter_at(one, environment, moment)]) for environment, moment in course]


def follower(works, play):
    """A Machine that keeps the works for ever, and whose course with a play's environments is this play."""
    check_works(works)
    if not is_play_of(works, play) or len(play) > MOST_FOLLOWED:
        raise BadPlay("a play to follow has at most 8 rounds of somebody who keeps the works for ever")
    if not is_lasting(works):
        return None
    modes = good_modes(works)
    tables, starts = played_tables(works, play)
    ways = [ends_behind(works, modes, len(play), mode) for mode in starts + list(modes)]
    for at, (_, _, letter) in enumerate(play[:-1]):
        ways[at][works.letters.index(letter)] = at + 1
    tables = tables + [table_with(works, mode, lost_letters(works, mode)) for mode in modes]
    size = len(works.panel.inputs)
    return least_machine(machine_with(size, works.panel.length, works.letters, list(zip(tables, ways))))


def is_play_of(works, thing):
    """What is_play tells, of what is known to be a Works."""
    if not is_list(thing):
        return False
    mode = 0
    for item in thing:
        if not is_played(works, mode, item):
            return False
        mode = works._ways[mode][works.letters.index(item[2])]
    return True


def is_played(works, mode, thing):
    """Tell whether any value is a triple that tells a round of a play in a mode."""
    if not is_tuple_of(thing, 3) or not is_environment_of(works.panel, thing[0]):
        return False
    environment, moment, letter = thing
    if not is_time(moment, works.panel.length) or moment not in had_in(works, mode, environment):
        return False
    return letter == works.letters[letter_at(works, environment, moment)]


def had_in(works, mode, environment):
    """The times with which those who keep the kept Task of a mode answer the arrivals of an environment."""
    return had_at(kept_task_in(works, mode), lay_of(works.panel).places[arrivals_in(works.panel, environment)])


def kept_task_in(works, mode):
    """What kept_task tells, of values that are known to be right; worked out once."""
    return task_with(works, mode, lost_letters(works, mode))


def answers_in(works, mode):
    """For each row of arrivals the times with which those who keep the kept Task of a mode answer it."""
    task = kept_task_in(works, mode)
    return [had_at(task, at) for at in range(len(lay_of(works.panel).rows))]


def played_tables(works, play):
    """For each round of a play a Table that answers as there and keeps the kept Task, and the mode of each round."""
    tables = []
    modes = []
    mode = 0
    for environment, moment, letter in play:
        tables.append(table_having(kept_task_in(works, mode), arrivals_in(works.panel, environment), moment))
        modes.append(mode)
        mode = works._ways[mode][works.letters.index(letter)]
    return tables, modes


def ends_behind(works, modes, ahead, mode):
    """For each letter the index of the state of the mode behind it, those of the good modes standing behind others.

    A letter that leads to a mode that is not good never comes.
    """
    return [ahead + modes.index(to if to in modes else mode) for to in works._ways[mode]]
