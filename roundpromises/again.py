"""Again and again: whether the greatest mark that comes again and again can be made even."""

from roundpromises.checks import is_number, is_tuple_of, is_within
from roundpromises.errors import BadLetters, BadMarks
from roundpromises.modes import can_bar, is_quarrel_with, is_table_with, letters_where, quarrel_with, table_with
from roundpromises.one import are_letters_among
from roundpromises.works import are_modes, check_works

MOST_MARK = 4
# How many marks have steps: in a staircase the odd ones, in a pit the even ones.
STAIRS = 2
DEPTHS = 3


def fine_modes(works, marks):
    """The ascending tuple of the modes from which the greatest mark again and again can be made even."""
    check_works(works)
    check_marks(works, marks)
    return tuple([mode for mode, steps in enumerate(stairs_of(works, marks)) if steps is not None])


def staircase(works, marks):
    """A staircase of just all fine modes; None if mode 0 is not fine."""
    check_works(works)
    check_marks(works, marks)
    every = stairs_of(works, marks)
    if every[0] is None:
        return None
    steps = {mode: found for mode, found in enumerate(every) if found is not None}
    return {mode: (steps[mode], table_with(works, mode, staying(works, marks, steps, mode))) for mode in steps}


def is_staircase(works, marks, thing):
    """Tell whether any value is a staircase of a works."""
    check_works(works)
    check_marks(works, marks)
    if not are_modes(works, thing) or not all([is_stepped(pair, STAIRS) for pair in thing.values()]):
        return False
    steps = {mode: pair[0] for mode, pair in thing.items()}
    barred = {mode: staying(works, marks, steps, mode) for mode in steps}
    return all([is_table_with(works, mode, barred[mode], pair[1]) for mode, pair in thing.items()])


def pit(works, marks):
    """A pit of just all modes that are not fine; None if mode 0 is fine."""
    check_works(works)
    check_marks(works, marks)
    stairs = stairs_of(works, marks)
    if stairs[0] is not None:
        return None
    every = depths_of(works, marks, [mode for mode, steps in enumerate(stairs) if steps is None])
    steps = {mode: found for mode, found in enumerate(every) if found is not None}
    return {mode: (steps[mode], quarrel_with(works, mode, sinking(works, marks, steps, mode))) for mode in steps}


def is_pit(works, marks, thing):
    """Tell whether any value is a pit of a works."""
    check_works(works)
    check_marks(works, marks)
    if not are_modes(works, thing) or not all([is_stepped(pair, DEPTHS) for pair in thing.values()]):
        return False
    steps = {mode: pair[0] for mode, pair in thing.items()}
    barred = {mode: sinking(works, marks, steps, mode) for mode in steps}
    return all([is_quarrel_with(works, mode, barred[mode], pair[1]) for mode, pair in thing.items()])


def can_return(works, letters):
    """Tell whether these letters can be made to come again and again."""
    return is_fine_by(works, letters, 2, 1)


def can_cease(works, letters):
    """Tell whether these letters can be made to come no more from some round on."""
    return is_fine_by(works, letters, 1, 0)


def is_fine_by(works, letters, mark, other_mark):
    """Tell whether mode 0 is fine with a mark for these letters and another one for all others."""
    check_works(works)
    if not are_letters_among(letters, works.letters):
        raise BadLetters("letters are a list of different letters of the works")
    marks = {letter: mark if letter in letters else other_mark for letter in works.letters}
    return stairs_of(works, marks)[0] is not None


def check_marks(works, marks):
    """Refuse what are no marks of a works."""
    if not are_worths(marks, works.letters, 0, MOST_MARK):
        raise BadMarks("marks are a dict from just all letters to numbers from 0 to 4")


def are_worths(thing, letters, low, high):
    """Tell whether any value is a dict from just these letters to numbers within bounds."""
    if not isinstance(thing, dict) or len(thing) != len(letters):
        return False
    return all([letter in letters and is_within(worth, low, high) for letter, worth in thing.items()])


def is_stepped(thing, many):
    """Tell whether any value is a pair of so many numbers from 0 on and something else."""
    if not is_tuple_of(thing, 2) or not is_tuple_of(thing[0], many):
        return False
    return all([is_number(step) and step >= 0 for step in thing[0]])


def staying(works, marks, steps, mode):
    """The letters that do not go from a mode, given the steps of the keys of a staircase."""
    return letters_where([not goes for goes in falling(works, marks, steps, mode, STAIRS)])


def sinking(works, marks, steps, mode):
    """The letters that sink from a mode, given the steps of the keys of a pit."""
    return letters_where(falling(works, marks, steps, mode, DEPTHS))


def falling(works, marks, steps, mode, many):
    """For each letter whether it leads to a key whose steps, for the marks from its own on, fall as they must."""
    found = []
    for letter, to in zip(works.letters, works._ways[mode]):
        found.append(to in steps and falls(marks[letter], steps[to], steps[mode], many))
    return found


def falls(mark, steps, others, many):
    """Tell whether steps are, for the marks from one on, not greater than others, and less if it has steps."""
    # With two steps, for 3 and 1, the odd marks have them; with three, for 4, 2 and 0, the even ones.
    judged = (many + 3 - mark) // 2
    if mark % 2 == many % 2:
        return steps[:judged] <= others[:judged]
    return steps[:judged] < others[:judged]


def stairs_of(works, marks):
    """For each mode the least steps of a staircase, None for those that are not fine."""

    def does(steps, mode):
        """Tell whether steps do for a mode, given those of the others."""
        return can_bar(works, mode, staying(works, marks, steps, mode))

    return least_steps(works, list(range(len(works))), STAIRS, does)


def depths_of(works, marks, modes):
    """For each of the modes that are not fine the least steps of a pit, None for all others."""

    def does(steps, mode):
        """Tell whether steps do for a mode, given those of the others."""
        return not can_bar(works, mode, sinking(works, marks, steps, mode))

    return least_steps(works, modes, DEPTHS, does)


def least_steps(works, modes, many, does):
    """The least steps that do for all modes at once, raised where they do not; None beyond the greatest ones."""
    steps = {mode: (0,) * many for mode in modes}
    is_changed = True
    while is_changed:
        is_changed = False
        for mode in list(steps):
            while mode in steps and not does(steps, mode):
                is_changed = True
                higher = next_steps(steps[mode], len(works))
                if higher is None:
                    del steps[mode]
                else:
                    steps[mode] = higher
    return [steps.get(mode) for mode in range(len(works))]


def next_steps(steps, most):
    """The next steps in ascending order, with no number greater than the most; None behind the last ones."""
    for at in reversed(range(len(steps))):
        if steps[at] < most:
            return steps[:at] + (steps[at] + 1,) + (0,) * (len(steps) - at - 1)
    return None
