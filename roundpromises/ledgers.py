"""Ledgers: what the shift book must tell of the letters, if all shall be kept for ever."""

from roundpromises.checks import is_ascending, is_list, is_name, is_tuple_of
from roundpromises.errors import BadLedger, BadName, BadSeen, BadSplit, BadView, TooMany
from roundpromises.looks import earliest_table, is_answered_rightly, lay_of
from roundpromises.modes import is_table_for
from roundpromises.ranks import is_ranked
from roundpromises.rows import check_moment, check_row_of, is_row_of, is_time
from roundpromises.sights import environments
from roundpromises.views import (
    environment_leaving,
    found_strife,
    goods_at,
    is_strife_at,
    left_of,
    named_so,
    possible_letters,
    ranks_from,
    views_from,
    wrongs_at,
)
from roundpromises.works import check_mode, check_works, is_mode

MOST_MODES = 6
MOST_SEEN = 8
NAMES = ("a", "b", "c", "d")


def view_left(works, ledger, view, arrivals, moment, name):
    """The ascending tuple of the modes that may be behind a round, as far as the ledger tells."""
    check_ledger(works, ledger)
    check_view(works, view)
    check_row_of(arrivals, len(works.panel.inputs), works.panel.length)
    check_moment(moment, works.panel.length)
    if not is_name_given(ledger, name):
        raise BadName("the ledger gives this name to some letter")
    return left_of(works, view, possible_letters(works, arrivals, moment) & named_so(works, ledger, name))


def course_to(works, ledger, seen, mode):
    """Environments with what was seen that lead from mode 0 to a mode; None if there are none."""
    check_ledger(works, ledger)
    check_seen(works, ledger, seen)
    check_mode(works, mode)
    courses = {0: []}
    for arrivals, moment, name in seen:
        possible = possible_letters(works, arrivals, moment) & named_so(works, ledger, name)
        ahead = courses
        courses = {}
        for start, course in ahead.items():
            for letter, to in enumerate(works._ways[start]):
                if possible >> letter & 1:
                    courses.setdefault(to, course + [environment_leaving(works, arrivals, moment, letter)])
    return courses.get(mode)


def is_safe_view(works, ledger, view):
    """Tell whether all promises can be kept for ever from a view on."""
    check_ledger(works, ledger)
    check_view(works, view)
    return view not in ranks_from(works, ledger, view)


def can_do_with(works, ledger):
    """Tell whether the view of mode 0 alone is safe."""
    check_ledger(works, ledger)
    return does(works, ledger)


def wit(works, ledger):
    """A dict from views to Tables that are fit there; None if the view of mode 0 is not safe."""
    check_ledger(works, ledger)
    ranks = ranks_from(works, ledger, (0,))
    if (0,) in ranks:
        return None
    lay = lay_of(works.panel)
    safe = [view for view in views_from(works, ledger, (0,)) if view not in ranks]
    return {view: earliest_table(lay, goods_at(works, ledger, view, lambda then: then in ranks)) for view in safe}


def is_wit(works, ledger, thing):
    """Tell whether any value is a wit of a works."""
    check_ledger(works, ledger)
    if not are_views(works, thing) or not all([is_table_for(works, table) for table in thing.values()]):
        return False
    lay = lay_of(works.panel)
    for view, table in thing.items():
        wrongs = wrongs_at(works, ledger, view, lambda then: then not in thing)
        if not is_answered_rightly(lay, wrongs, table.answers()):
            return False
    return True


def blind_spot(works, ledger):
    """A dict from views to ranks and strifes; None if the view of mode 0 is safe."""
    check_ledger(works, ledger)
    ranks = ranks_from(works, ledger, (0,))
    if (0,) not in ranks:
        return None
    every = environments(works.panel)
    return {view: (ranks[view], found_strife(works, ledger, view, ranks, every)) for view in sorted(ranks)}


def is_blind_spot(works, ledger, thing):
    """Tell whether any value is a blind spot of a works."""
    check_ledger(works, ledger)
    if not are_views(works, thing) or not all([is_ranked(pair) for pair in thing.values()]):
        return False
    ranks = {view: pair[0] for view, pair in thing.items()}
    return all([is_strife_at(works, ledger, view, ranks, pair[1]) for view, pair in thing.items()])


def ledger_of(works, split):
    """The ledger that gives each letter a name by the place of its tuple in a split."""
    check_few_modes(works)
    if split not in all_splits(works.letters):
        raise BadSplit("a split parts the letters, in their order, into tuples, in the order of their first ones")
    return named_by(works, split)


def coarsest_splits(works):
    """The ascending list of the splits that do, while none does that puts two of their tuples together."""
    check_few_modes(works)
    splits = all_splits(works.letters)
    doing = [split for split in splits if does(works, named_by(works, split))]
    return sorted([split for split in doing if not any([is_put_together(other, split) for other in doing])])


def finest_gaps(works):
    """The ascending list of the splits that do not, while each does that parts one of their tuples in two."""
    check_few_modes(works)
    splits = all_splits(works.letters)
    lost = [split for split in splits if not does(works, named_by(works, split))]
    return sorted([split for split in lost if not any([is_put_together(split, other) for other in lost])])


def check_few_modes(works):
    """Refuse what is no Works, then one with too many modes for views."""
    check_works(works)
    if len(works) > MOST_MODES:
        raise TooMany(MOST_MODES)


def check_ledger(works, ledger):
    """Refuse what is no Works with few modes, then what is no ledger of it."""
    check_few_modes(works)
    if not is_ledger(works, ledger):
        raise BadLedger("a ledger is a dict from just all letters to names")


def check_view(works, view):
    """Refuse what is no view of a works."""
    if not is_view(works, view):
        raise BadView("a view is an ascending tuple of one or more different modes")


def check_seen(works, ledger, seen):
    """Refuse what is no list of what was seen of a works with a ledger."""
    if not is_list(seen) or len(seen) > MOST_SEEN:
        raise BadSeen(None)
    for at, thing in enumerate(seen):
        if not is_seen(works, ledger, thing):
            raise BadSeen(at)


def is_ledger(works, thing):
    """Tell whether any value is a ledger of a works."""
    if not isinstance(thing, dict) or len(thing) != len(works.letters):
        return False
    return all([letter in works.letters and is_name(name) for letter, name in thing.items()])


def is_name_given(ledger, thing):
    """Tell whether any value is a name that a ledger gives to some letter."""
    return thing in list(ledger.values())


def is_view(works, thing):
    """Tell whether any value is a view of a works."""
    if not isinstance(thing, tuple) or not thing:
        return False
    return all([is_mode(works, mode) for mode in thing]) and is_ascending(thing)


def are_views(works, thing):
    """Tell whether any value is a dict from views, that of mode 0 alone among them."""
    return isinstance(thing, dict) and all([is_view(works, view) for view in thing.keys()]) and (0,) in thing


def is_seen(works, ledger, thing):
    """Tell whether any value is a triple of arrivals, a time and a name that the ledger gives."""
    panel = works.panel
    if not is_tuple_of(thing, 3) or not is_row_of(thing[0], len(panel.inputs), panel.length):
        return False
    return is_time(thing[1], panel.length) and is_name_given(ledger, thing[2])


def does(works, ledger):
    """What can_do_with tells, of values that are known to be right."""
    return (0,) not in ranks_from(works, ledger, (0,))


def all_splits(letters):
    """The list of all splits of some letters."""
    found = [()]
    for letter in letters:
        found = [more for split in found for more in splits_with(split, letter)]
    return found


def splits_with(split, letter):
    """The splits that have a letter more, behind those of one of their tuples or in one of its own."""
    found = [split[:at] + (split[at] + (letter,),) + split[at + 1 :] for at in range(len(split))]
    return found + [split + ((letter,),)]


def named_by(works, split):
    """What ledger_of tells, of values that are known to be right."""
    names = {letter: name for name, letters in zip(NAMES, split) for letter in letters}
    return {letter: names[letter] for letter in sorted(works.letters)}


def is_put_together(split, other):
    """Tell whether a split comes from the other one by putting two of its tuples together."""
    if len(split) != len(other) - 1:
        return False
    return all([any([is_within_tuple(letters, more) for more in split]) for letters in other])


def is_within_tuple(letters, more):
    """Tell whether all letters of a tuple stand in another one."""
    return all([letter in more for letter in letters])
