"""Journals: deeds, and what was to be seen of a plant behind each of them."""

from roundpromises.checks import is_list, is_number, is_tuple_of
from roundpromises.errors import BadJournal, PromiseError
from roundpromises.plant import Plant, check_plant

# How many parts a deed has, by its word.
PARTS = {"hear": 2, "ring": 1, "tick": 1, "close": 3, "put": 2, "drop": 2, "undo": 1}


def picture(plant):
    """The mode, the moment, what was heard and when the output was rung."""
    check_plant(plant)
    return picture_of(plant)


def journal_of(plant):
    """The list of the deeds of a plant, each with the picture behind it."""
    check_plant(plant)
    led = Plant(plant.first())
    found = []
    for deed in plant.log():
        do_deed(led, deed)
        found.append((deed, picture_of(led)))
    return found


def first_wrong(works, thing):
    """The index of the first item for which a value is no journal of a new plant of a works; None if it is one."""
    wrong, _ = led_by_journal(works, thing)
    return wrong


def replayed(works, journal):
    """The plant behind a journal."""
    wrong, plant = led_by_journal(works, journal)
    if wrong is not None:
        raise BadJournal(wrong)
    return plant


def picture_of(plant):
    """What picture tells, of what is known to be a Plant."""
    return plant.mode(), plant.moment(), plant.heard(), plant.rung()


def led_by_journal(works, thing):
    """The index of the first wrong item of any value, None if there is none, and a new plant led by those ahead.

    What is no Works is refused.
    """
    plant = Plant(works)
    if not is_list(thing):
        return 0, plant
    for at, item in enumerate(thing):
        if not is_tuple_of(item, 2) or not is_done(plant, item[0]) or not is_picture(plant, item[1]):
            return at, plant
    return None, plant


def is_done(plant, thing):
    """Do what any value tells, and tell whether it is a deed that is not refused."""
    if not is_deed(thing):
        return False
    try:
        do_deed(plant, thing)
    except PromiseError:
        return False
    return True


def is_deed(thing):
    """Tell whether any value is a tuple with the word of a deed and as many parts as that has."""
    if not isinstance(thing, tuple) or not thing or not isinstance(thing[0], str):
        return False
    return len(thing) == PARTS.get(thing[0])


def do_deed(plant, deed):
    """Do with a plant what the word of a deed and its other parts tell."""
    word = deed[0]
    if word == "hear":
        plant.hear(deed[1])
    elif word == "ring":
        plant.ring()
    elif word == "tick":
        plant.tick()
    elif word == "close":
        plant.close(deed[1], deed[2])
    elif word == "put":
        plant.put(deed[1])
    elif word == "drop":
        plant.drop(deed[1])
    else:
        plant.undo()


def is_picture(plant, thing):
    """Tell whether any value is the picture of a plant, True being no 1."""
    if not is_tuple_of(thing, 4) or not isinstance(thing[2], tuple):
        return False
    mode, moment, heard, rung = picture_of(plant)
    told = (thing[0], thing[1], thing[3]) + thing[2]
    wanted = (mode, moment, rung) + heard
    return len(told) == len(wanted) and all([is_same_time(one, other) for one, other in zip(told, wanted)])


def is_same_time(thing, time):
    """Tell whether any value is a number, or None, that is the same as one."""
    return thing is None if time is None else is_number(thing) and thing == time
