"""Books of rules: which rules can be kept together, which change broke a works, and how two histories are joined."""

from roundpromises.checks import is_list, is_tuple_of
from roundpromises.corners import one_left_out
from roundpromises.errors import BadCases, BadChanges, BadLot, Clash, OtherWorks, TooMany
from roundpromises.ever import is_lasting
from roundpromises.sights import check_few_environments, check_panel
from roundpromises.terms import are_cases_of, letters_of
from roundpromises.works import MOST_RULES, Works, check_works, is_rule

MOST_CHANGES = 12


def can_keep(works, lot):
    """Tell whether the rules of a lot alone can be kept for ever."""
    check_works(works)
    if not is_lot(works, lot):
        raise BadLot("a lot is a tuple of different names of rules, in their order")
    return is_lot_kept(works, lot)


def greatest_lots(works):
    """The ascending list of the lots that can be kept while no greater one can."""
    check_works(works)
    kept = kept_lots(works)
    return sorted([lot for lot in kept if kept[lot] and not any([kept[more] for more in one_more(works, lot)])])


def least_quarrels(works):
    """The ascending list of the lots that cannot be kept while they can with any one name left out."""
    check_works(works)
    kept = kept_lots(works)
    return sorted([lot for lot in kept if not kept[lot] and all([kept[less] for less in one_left_out(lot)])])


def least_drops(works):
    """The ascending list of the least lots without which all other rules can be kept together."""
    return sorted([others(works, lot) for lot in greatest_lots(works)])


def history(panel, cases, changes):
    """The list of the Works behind each change, from a Works without rules on."""
    check_panel(panel)
    if not are_cases_of(cases, panel.inputs + ("out",)):
        raise BadCases("cases are a list of at most 3 pairs of a letter and a condition")
    check_few_environments(panel)
    if not is_list(changes) or len(changes) > MOST_CHANGES:
        raise BadChanges(None)
    works = Works(panel, cases, [])
    found = []
    for at, change in enumerate(changes):
        works = changed(works, change)
        if works is None:
            raise BadChanges(at)
        found.append(works)
    return found


def first_broken(panel, cases, changes):
    """The index of the first change from which on none of the Works can be kept; None if the last one can."""
    found = None
    every = history(panel, cases, changes)
    for at in reversed(range(len(every))):
        if is_lasting(every[at]):
            break
        found = at
    return found


def joined(base, one, other):
    """The Works with what one changed of the base, and with what the other one changed."""
    check_works(base)
    check_works(one)
    check_works(other)
    if base.panel != one.panel or base.cases != one.cases or base.panel != other.panel or base.cases != other.cases:
        raise OtherWorks("all three works have equal panels and equal cases")
    told = [rules_by_name(works) for works in (base, one, other)]
    names = []
    for rules in told:
        names = names + [name for name in rules if name not in names]
    kept = {name: merged(name, told) for name in sorted(names)}
    rules = [(name,) + kept[name] for name in names if kept[name] is not None]
    return Works(base.panel, base.cases, rules)


def is_lot(works, thing):
    """Tell whether any value is a lot of a works."""
    return isinstance(thing, tuple) and thing == tuple([name for name in works.names if name in thing])


def is_lot_kept(works, lot):
    """What can_keep tells, of values that are known to be right."""
    return is_lasting(Works(works.panel, works.cases, [rule for rule in works.rules if rule[0] in lot]))


def kept_lots(works):
    """The dict from all lots to whether they can be kept."""
    lots = [()]
    for name in works.names:
        lots = lots + [lot + (name,) for lot in lots]
    kept = {}
    for lot in lots:
        # Fewer rules never hurt, so what has a lesser lot, which came ahead, that cannot be kept need not be tried.
        kept[lot] = all([kept[less] for less in one_left_out(lot)]) and is_lot_kept(works, lot)
    return kept


def one_more(works, lot):
    """The list of the lots with one name more."""
    found = []
    for name in others(works, lot):
        found.append(tuple([other for other in works.names if other == name or other in lot]))
    return found


def others(works, lot):
    """The lot of all names that a lot has not."""
    return tuple([name for name in works.names if name not in lot])


def changed(works, change):
    """The Works behind a change; None for what is no change, or one that cannot be done."""
    if not is_tuple_of(change, 2) or change[0] not in ("put", "drop"):
        return None
    word, thing = change
    if word == "drop":
        return works.without(thing) if thing in works.names else None
    if not is_rule(thing, works.panel.inputs, letters_of(works.cases)):
        return None
    if thing[0] in works.names:
        rules = [thing if rule[0] == thing[0] else rule for rule in works.rules]
    else:
        rules = list(works.rules) + [thing]
    return works_with(works, rules) if len(rules) <= MOST_RULES else None


def works_with(works, rules):
    """The Works otherwise the same with other rules; None if it has too many modes."""
    try:
        return Works(works.panel, works.cases, rules)
    except TooMany:
        return None


def rules_by_name(works):
    """The dict from the names of the rules, in their order, to the pairs of their form and their promise."""
    return {name: (form, promise) for name, form, promise in works.rules}


def merged(name, told):
    """What a name has in the joined Works, given the rules by name of the base and of both others; None for nothing."""
    base, one, other = [rules.get(name) for rules in told]
    if one == other or other == base:
        return one
    if one == base:
        return other
    raise Clash(name)
