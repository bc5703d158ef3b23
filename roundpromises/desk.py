"""A desk: a plant that is led and asked by lines of words."""

from roundpromises.corners import greatest_delays
from roundpromises.errors import BadText, PromiseError
from roundpromises.ever import good_modes, lasts, rank
from roundpromises.journals import do_deed
from roundpromises.plant import Plant
from roundpromises.texts import read_works
from roundpromises.wording import NO_TIME, Words, read_low_form, read_promise, time_word

LAST_NUMBER = 99
UNKNOWN = "what"


def mode_told(plant):
    """The answer to `mode`."""
    return str(plant.mode())


def moment_told(plant):
    """The answer to `moment`."""
    return str(plant.moment())


def rung_told(plant):
    """The answer to `rung`."""
    return time_word(plant.rung())


def heard_told(plant):
    """The answer to `heard`."""
    return told_list([time_word(time) for time in plant.heard()])


def word_told(plant):
    """The answer to `word`."""
    return told_list(plant.past())


def active_told(plant):
    """The answer to `active`."""
    return told_list(plant.works().active(plant.mode()))


def broken_told(plant):
    """The answer to `broken`."""
    return told_list([str(at) for at in plant.broken()])


def advice_told(plant):
    """The answer to `advice`."""
    advice = plant.advice()
    if advice is None:
        return "rung"
    may_ring, may_wait = advice
    if may_ring:
        return "either" if may_wait else "ring"
    return "wait" if may_wait else "neither"


def sure_told(plant):
    """The answer to `sure`."""
    return "yes" if plant.is_sure() else "no"


def lasts_told(plant):
    """The answer to `lasts`."""
    return "yes" if lasts(plant.works()) else "no"


def rank_told(plant):
    """The answer to `rank`."""
    return time_word(rank(plant.works(), plant.mode()))


def lost_told(plant):
    """The answer to `lost`."""
    return time_word(plant.lost_in())


def good_told(plant):
    """The answer to `good`."""
    return told_list([str(mode) for mode in good_modes(plant.works())])


def delays_told(plant):
    """The answer to `delays`."""
    return told_list([",".join([str(delay) for delay in delays]) for delays in greatest_delays(plant.works())])


QUESTIONS = {
    "mode": mode_told,
    "moment": moment_told,
    "rung": rung_told,
    "heard": heard_told,
    "word": word_told,
    "active": active_told,
    "broken": broken_told,
    "advice": advice_told,
    "sure": sure_told,
    "lasts": lasts_told,
    "rank": rank_told,
    "lost": lost_told,
    "good": good_told,
    "delays": delays_told,
}


class Desk:
    """A desk with a plant of the works of a text."""

    def __init__(self, text):
        self._plant = Plant(read_works(text))

    def say(self, line):
        """The answer to any value: to a deed, to a question, or to what is neither."""
        if not isinstance(line, str):
            return UNKNOWN
        try:
            return answered(self._plant, line)
        except PromiseError as error:
            return "error " + error.kind()


def answered(plant, line):
    """The answer to a line, whose errors are raised."""
    if line in QUESTIONS:
        question = QUESTIONS[line]
        return question(plant)
    deed = told_deed(line, len(plant.heard()))
    if deed is None:
        return UNKNOWN
    do_deed(plant, deed)
    return "ok"


def told_deed(line, size):
    """The deed that a line tells, for so many inputs; None if it tells none."""
    words = Words(line, 0)
    try:
        deed = read_deed(words, size)
        words.finish()
    except BadText:
        return None
    return deed


def read_deed(words, size):
    """The deed told by some words, for so many inputs."""
    word = words.take()
    if word in ("ring", "tick", "undo"):
        return (word,)
    if word in ("hear", "drop"):
        return word, words.take_name()
    if word == "close":
        row = tuple([words.take_time(LAST_NUMBER) for _ in range(size)])
        return word, row, words.take_time(LAST_NUMBER)
    if word == "put":
        name = words.take_name()
        form = read_low_form(words)
        return word, (name, form, read_promise(words))
    raise BadText(words.number)


def told_list(words):
    """The words of a list with one blank between two, or what is told where there is nothing."""
    return " ".join(words) if words else NO_TIME
