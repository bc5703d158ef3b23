"""Point 210: a desk, beside a plant."""

import random
import unittest

from roundpromises.corners import greatest_delays
from roundpromises.desk import Desk
from roundpromises.errors import BadText, BadWorks, PromiseError, TooMany
from roundpromises.ever import good_modes, lasts, rank
from roundpromises.forms import ALWAYS
from roundpromises.plant import Plant
from roundpromises.sights import Panel, environments
from roundpromises.texts import works_text
from roundpromises.works import Works
from tests.calls_works import LOST, MORE, STILL, WORKS
from tests.helpers import JUNK, Case, times_of
from tests.small import BEHIND_A, FORMS, works_by
from tests.test_plant import do, lead
from tests.test_texts import TEXT

QUESTIONS = "mode moment rung heard word active broken advice sure lasts rank lost good delays".split()
WORD = {(True, False): "ring", (False, True): "wait", (True, True): "either", (False, False): "neither", None: "rung"}
PAIR = Works(Panel(["b", "c"], 2, {"b": (0, 1), "c": (0, 3)}, 1), [("a", (("rings", "out"),))], [])


def listed(things):
    return " ".join(str(thing) for thing in things) or "-"


def timed(time):
    return "-" if time is None else str(time)


def answers(plant):
    """What a desk is to answer to each question, of a plant."""
    works = plant.works()
    try:
        delays = listed(",".join(map(str, one)) for one in greatest_delays(works))
    except TooMany:
        delays = "error TooMany"
    return {
        "mode": str(plant.mode()),
        "moment": str(plant.moment()),
        "rung": timed(plant.rung()),
        "heard": " ".join(map(timed, plant.heard())),
        "word": listed(plant.past()),
        "active": listed(works.active(plant.mode())),
        "broken": listed(plant.broken()),
        "advice": WORD[plant.advice()],
        "sure": "yes" if plant.is_sure() else "no",
        "lasts": "yes" if lasts(works) else "no",
        "rank": timed(rank(works, plant.mode())),
        "lost": timed(plant.lost_in()),
        "good": listed(good_modes(works)),
        "delays": delays,
    }


def line_of(deed):
    """The line for a deed, by another road than the desk's."""
    word, *parts = deed
    if word == "close":
        return " ".join(["close", *map(timed, parts[0]), timed(parts[1])])
    if word == "put":
        name, form, promise = parts[0]
        works = Works(Panel(["b", "c"], 8, None, 0), [(x, ()) for x in "ace"], [("z", form, promise)])
        rule, asks = works_text(works).split("\n")[-3:-1]
        return " ".join(["put", name, rule.partition(" z ")[2], asks])
    return " ".join([word, *parts])


class Desks(Case):
    def ask(self, desk, plant):
        for question, answer in answers(plant).items():
            self.same(desk.say(question), answer)

    def test_beside_a_plant(self):
        said = []
        for seed in range(80):
            chance = random.Random(seed)
            works = works_by(seed)
            plant, desk = Plant(works), Desk(works_text(works))
            self.ask(desk, plant)
            for _ in range(12):
                for deed in self.drawn(chance, plant):
                    said.append(self.do(desk, plant, deed))
                self.ask(desk, plant)
        wanted = ["ok", "error NotNow", "error BadName", "error BadRow", "error BadMoment", "error BadWorks"]
        self.assertEqual(set(said) - {"error TooMany"}, {*wanted, "error NothingDone"})

    def do(self, desk, plant, deed):
        try:
            do(plant, deed)
            wanted = "ok"
        except PromiseError as error:
            wanted = "error " + type(error).__name__
        self.same(desk.say(line_of(deed)), wanted)
        return wanted

    def drawn(self, chance, plant):
        """Some deeds: those of a round, or one alone, which may be refused."""
        length = plant.works().panel.length
        if chance.random() < 0.3 and (plant.moment(), plant.heard(), plant.rung()) == (0, (None,), None):
            environment, time = chance.choice(environments(plant.works().panel)), chance.choice(times_of(length))
            rung = None if time is None else time + environment[2]
            return lead(plant.copy(), environment, time) + [("close", environment[0], rung)]
        row, rung = chance.choice([(0,), (None,), (9,)]), chance.choice([None, 0, 1, length + 2, length + 3])
        rule = (chance.choice("xyzp"), chance.choice(FORMS), ((), ("first", (chance.choice("bbc"),), 0, 1)))
        deeds = [("hear", "b"), ("hear", "c"), ("ring",), ("tick",), ("tick",), ("close", row, rung), ("undo",)]
        return [chance.choice([*deeds, ("put", rule), ("drop", chance.choice("xyz"))])]

    def test_two_inputs(self):
        desk, plant = Desk(works_text(PAIR)), Plant(PAIR)
        deeds = [("hear", "c"), ("tick",), ("ring",), ("close", (1, 0), 2), ("close", (None, 0), 2)]
        deeds += [("put", ("r", BEHIND_A, ((), ("never",)))), ("tick",), ("tick",), ("close", (None, 2), None)]
        said = []
        for deed in deeds:
            said.append(self.do(desk, plant, deed))
            self.ask(desk, plant)
        self.same(said, ["ok", "ok", "ok", "error NotNow", "ok", "ok", "ok", "ok", "ok"])
        self.same(desk.say("heard"), "- -")
        self.same(desk.say("word"), "a other")

    def test_by_hand(self):
        desk = Desk(works_text(WORKS))
        self.same([desk.say(word) for word in QUESTIONS[:7]], ["0", "0", "-", "-", "-", "soon", "-"])
        self.same([desk.say(word) for word in QUESTIONS[7:]], ["wait", "yes", "yes", "-", "-", "0", "1"])
        for line in ("tick", "hear b", "ring", "tick", "close 1 1"):
            self.same(desk.say(line), "ok")
        self.same([desk.say(word) for word in ("word", "mode", "active")], ["y", "1", "soon still"])
        for line in ("ring", "close - 0"):
            self.same(desk.say(line), "ok")
        self.same(desk.say("broken"), "1")
        lost = Desk(works_text(LOST))
        self.same([lost.say(word) for word in ("lasts", "rank", "lost", "good", "sure")], ["no", "2", "2", "-", "no"])
        self.same(lost.say("delays"), "1")

    def test_no_delays_do(self):
        rules = [(name, ALWAYS, ((), ("first", ("start",), at, at))) for at, name in enumerate("ab")]
        works = Works(Panel(["b"], 1, None, 0), [], rules)
        self.same(Desk(works_text(works)).say("delays"), "-")
        self.same(Desk(works_text(works)).say("good"), "-")
        pair = Works(Panel(["b", "c"], 1, None, 0), [], [("x", ALWAYS, ((), ("last", ("b", "c"), 0, 0)))])
        self.same(Desk(works_text(pair)).say("delays"), "0,0")

    def test_questions_with_too_many_delays(self):
        works = Works(Panel(["b", "c", "d"], 3, None, 0), [], [])
        desk = Desk(works_text(works))
        self.same(desk.say("delays"), "error TooMany")
        self.same(desk.say("heard"), "- - -")

    def test_put(self):
        desk = Desk(works_text(MORE))
        self.same(desk.say("put still then many any one y asks never if always"), "ok")
        self.same(desk.say("active"), "soon")
        plant = Plant(MORE)
        plant.put(STILL)
        self.ask(desk, plant)
        self.same(desk.say("put still any asks never if always"), "error BadWorks")
        self.same(desk.say("put x one z asks never if always"), "error BadWorks")
        self.same(desk.say("put x any asks never if rings c"), "error BadWorks")
        self.same(desk.say("put asks any asks never if rings b and gap start b -1"), "ok")
        self.same(desk.say("put if any asks last start 0 1 if always"), "ok")
        self.same(desk.say("active"), "soon")
        for name in ("asks", "if", "still"):
            self.same(desk.say("drop " + name), "ok")
        self.same(desk.say("tick"), "ok")
        self.same(desk.say("put x any asks never if always"), "error NotNow")
        self.same(desk.say("drop soon"), "error NotNow")
        self.same(desk.say("drop none"), "error NotNow")
        self.same(desk.say("undo"), "ok")
        self.same(desk.say("drop none"), "error BadName")

    def test_what(self):
        desk = Desk(works_text(WORKS))
        desk.say("tick")
        lines = """
        |hear|hear out|hear start|hear other|hear B|hear b b|hear  b|hear b |hear abcdefg|hear b1|hear -|Hear b
        |ring b|ring |tick 1|ticks|tick |undo 1|undone|drop|drop out|drop x y|drop |close|close 0|close 0 1 1
        |close 00 0|close 0 00|close 01 0|close +1 0|close -1 0|close 0 -1|close 0 +1|close 100 0|close 0 100
        |close 0 1 |close  0 1|close 0  1|close 0,1|close None 0|close 0 None|close a 0|close -- 0|close 0.0 0
        |put|put x|put x any|put x any asks|put x any asks never|put x any asks never if|put x any never if always
        |place x any asks never if always|x any asks never if always|asks x any asks never if always
        |put out any asks never if always|put x none asks never if always
        |put x any any asks never if always
        |put x not not not not not not any asks never if always|put x one out asks never if always
        |put x any asks never if rings out|put x any asks first out 0 1 if always
        |put x any asks first b 1 0 if always|put x any asks first b,b 0 1 if always
        |put x any asks first c,b 0 1 if always|put x any asks first b 0 9 if always
        |put x any asks never if rings b and rings b and rings b and rings b and rings b
        |put x any asks never if always and
        |put x any asks never if always always|put x any asks never if gap b b 0
        |put x any asks never if gap b start 9
        |put x any asks never if gap b start -0
        |mode 0|mode |modes|moment 1|Mode|what|ok|good modes|lasts?|heard b|word a
        |copy|book|log|first|works|past|len|threat|tried|__init__|close\n0 1|tick\n|mode\n|tick\ntick
        """.strip().replace("\n        |", "|").split("|")
        ahead = [desk.say(question) for question in QUESTIONS]
        for line in lines:
            self.same(desk.say(line), "what")
        for thing in (*[thing for thing in JUNK if not isinstance(thing, str)], ["tick"], ("tick",), WORKS, desk):
            self.same(desk.say(thing), "what")
        self.same([desk.say(question) for question in QUESTIONS], ahead)
        self.assertGreater(len(lines), 90)

    def test_refused_but_known(self):
        desk = Desk(works_text(WORKS))
        for line, answer in (
            ("hear c", "error BadName"),
            ("hear always", "error BadName"),
            ("undo", "error NothingDone"),
            ("close 9 0", "error BadRow"),
            ("close 99 99", "error BadRow"),
            ("close 3 0", "error BadRow"),
            ("close 2 5", "error BadMoment"),
            ("close 2 99", "error BadMoment"),
            ("close 2 4", "error NotNow"),
            ("close - -", "error NotNow"),
            ("drop mode", "error BadName"),
            ("put x any asks never if rings mode", "error BadWorks"),
        ):
            self.same(desk.say(line), answer)
            told = [desk.say(word) for word in ("moment", "heard", "rung", "word", "active")]
            self.same(told, ["0", "-", "-", "-", "soon"])
        desk.say("ring")
        self.same(desk.say("ring"), "error NotNow")
        self.same(desk.say("hear b"), "error NotNow")
        self.same(desk.say("close - 3"), "error NotNow")
        self.same(desk.say("close - 1"), "ok")

    def test_too_many_modes(self):
        four = "then then any any then any any"
        desk = Desk("round 1 0\ninput b 0 0\nrule x many then any " + four + "\nasks never if always\n")
        self.same(desk.say("put y many " + four + " asks never if always"), "error TooMany")
        self.same(desk.say("active"), "x")
        self.same(desk.say("put y many then any then any any asks never if always"), "ok")

    def test_texts(self):
        for thing in JUNK:
            self.refused(BadText, Desk, thing, at=0)
        self.refused(BadText, Desk, TEXT + "x", at=13)
        self.refused(BadWorks, Desk, "round 1 0\ninput b 0 0\ncase a rings c\n", part="cases")
        self.refused(TooMany, Desk, "round 8 2\ninput b 0 9\ninput c 0 9\n", most=2000)
        self.same(Desk(TEXT).say("heard"), "- - -")

    def test_desks_are_their_own(self):
        one, other = Desk(works_text(WORKS)), Desk(works_text(WORKS))
        one.say("tick")
        self.same((one.say("moment"), other.say("moment")), ("1", "0"))


if __name__ == "__main__":
    unittest.main()
