"""Ranks: within how many rounds the inputs can break a promise, from whatever places rounds lead to one another."""

from roundpromises.checks import is_number, is_tuple_of


def ranked(places, can_keep):
    """The dict from those of the places that cannot be kept for ever to their ranks.

    Can_keep tells of a place and a dict of lost ones whether one round can be kept there that leads to none of
    these. Rank by rank, those are lost that cannot keep away from the ones lost before.
    """
    ranks = {}
    left = places
    level = 0
    is_changed = True
    while is_changed:
        level += 1
        lost = [place for place in left if not can_keep(place, ranks)]
        for place in lost:
            ranks[place] = level
        left = [place for place in left if place not in ranks]
        is_changed = len(lost) > 0
    return ranks


def is_ranked(thing):
    """Tell whether any value is a pair of a rank and something else."""
    return is_tuple_of(thing, 2) and is_number(thing[0]) and thing[0] >= 1


def is_lower(ranks, place, other):
    """Tell whether a place has a rank, and a lesser one than another that has one."""
    return place in ranks and ranks[place] < ranks[other]
