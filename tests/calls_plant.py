"""For all functions of field to desk: one call that goes well, and which error comes first."""

from roundpromises.desk import Desk
from roundpromises.field import explains, least_faults
from roundpromises.forms import ALWAYS
from roundpromises.journals import first_wrong, journal_of, picture, replayed
from roundpromises.plant import Plant
from roundpromises.tables import constant
from roundpromises.texts import form_text, read_form, read_table, read_works, table_text, works_text
from tests.calls import PANEL
from tests.calls_works import LOST, MORE, STILL, WORKS, WORKS_FIRST

SEEN = [((0,), 2), ((2,), None)]
FAULTS = ((1,), 1, False)
ONE = constant(1, 2, 1)
TEXT = works_text(WORKS)
DEEDS = [("hear", "b"), ("tick",), ("ring",), ("close", (0,), 1), ("tick",)]


def led(works, deeds):
    plant = Plant(works)
    for word, *parts in deeds:
        getattr(plant, word)(*parts)
    return plant


PLANT = led(WORKS, DEEDS)
LOST_PLANT = led(LOST, [("tick",)])
JOURNAL = journal_of(PLANT)


# What a deed changes is shown by the log of a plant of its own.
def hear(name):
    plant = PLANT.copy()
    plant.hear(name)
    return plant.log()


def close(row, rung):
    plant = led(WORKS, DEEDS[:3])
    plant.close(row, rung)
    return plant.book(), plant.log()


def put(rule):
    plant = led(MORE, [])
    plant.put(rule)
    return plant.log()


def drop(name):
    plant = led(WORKS, [])
    plant.drop(name)
    return plant.log()


def say(line):
    desk = Desk(TEXT)
    return desk.say(line)


CALLS = [
    (explains, PANEL, ONE, FAULTS, SEEN),
    (least_faults, PANEL, ONE, SEEN),
    (Plant, WORKS),
    (hear, "b"),
    (close, (0,), 2),
    (put, STILL),
    (drop, "soon"),
    (PLANT.works,),
    (PLANT.past,),
    (PLANT.mode,),
    (PLANT.moment,),
    (PLANT.heard,),
    (PLANT.rung,),
    (PLANT.book,),
    (PLANT.broken,),
    (PLANT.log,),
    (PLANT.first,),
    (PLANT.copy,),
    (PLANT.advice,),
    (PLANT.is_sure,),
    (LOST_PLANT.threat,),
    (LOST_PLANT.is_threat, LOST_PLANT.threat()),
    (LOST_PLANT.lost_in,),
    (picture, PLANT),
    (journal_of, PLANT),
    (first_wrong, WORKS, JOURNAL),
    (replayed, WORKS, JOURNAL),
    (works_text, WORKS),
    (read_works, TEXT),
    (form_text, ALWAYS),
    (read_form, "then any one x"),
    (table_text, ONE),
    (read_table, table_text(ONE)),
    (Desk, TEXT),
    (say, "close - -"),
]

PANEL_FIRST = ("panel", PANEL, "BadPanel", None)
TABLE_NEXT = ("table", ONE, "BadTable", None)
PLANT_FIRST = ("plant", PLANT, "BadPlant")
TEXT_FIRST = ("text", TEXT, "BadText", 0)
ORDERED = [
    (explains, PANEL_FIRST, TABLE_NEXT, ("faults", FAULTS, "BadFaults"), ("seen", SEEN, "BadSeen", None)),
    (least_faults, PANEL_FIRST, TABLE_NEXT, ("seen", SEEN, "BadSeen", None)),
    (Plant, WORKS_FIRST),
    (hear, ("name", "b", "BadName")),
    (close, ("row", (0,), "BadRow"), ("rung", 1, "BadMoment")),
    (put, ("rule", STILL, "BadWorks", "rules")),
    (drop, ("name", "soon", "BadName")),
    (LOST_PLANT.is_threat, ("thing", LOST_PLANT.threat(), None)),
    (picture, PLANT_FIRST),
    (journal_of, PLANT_FIRST),
    (first_wrong, WORKS_FIRST, ("thing", JOURNAL, None)),
    (replayed, WORKS_FIRST, ("journal", JOURNAL, "BadJournal", 0)),
    (works_text, WORKS_FIRST),
    (read_works, TEXT_FIRST),
    (form_text, ("form", ALWAYS, "BadForm")),
    (read_form, ("text", "any", "BadText", 0)),
    (table_text, TABLE_NEXT),
    (read_table, ("text", table_text(ONE), "BadText", 0)),
    (Desk, TEXT_FIRST),
    (say, ("line", "tick", None)),
]
THINGS = [PLANT, LOST_PLANT, Desk(TEXT)]
