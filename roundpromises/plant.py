"""Plants that are led moment by moment: what was done, what can still be kept from here, and what threatens it."""

from roundpromises.checks import is_within
from roundpromises.errors import BadMoment, BadName, BadPlant, NothingDone, NotNow
from roundpromises.rows import check_row_of
from roundpromises.stages import (
    Before,
    begun,
    can_arrive,
    can_ring,
    closed,
    found_threat,
    heard_more,
    is_begun,
    is_sure_by,
    is_threat_to,
    kept_above,
    kept_at,
    may_ring,
    may_wait,
    ruled,
    rung_now,
    ticked,
)
from roundpromises.works import check_works


class Plant:
    """A works, led from the beginning of its first round by deeds that can be taken back."""

    def __init__(self, works):
        check_works(works)
        self._first = works
        self._deeds = []
        # How the plant stood at first, and behind each of the deeds.
        self._stages = [begun(Before(works, (), (), ()))]

    def __len__(self):
        return len(self._deeds)

    def __eq__(self, other):
        return isinstance(other, Plant) and self._first == other._first and self._deeds == other._deeds

    def hear(self, name):
        """An input arrives at the present moment."""
        stage = self._stages[-1]
        panel = self._first.panel
        if name not in panel.inputs:
            raise BadName("an input of the works has this name")
        at = panel.inputs.index(name)
        if stage.arrived[at] is not None:
            raise NotNow("heard")
        if stage.rang == stage.clock:
            raise NotNow("rung")
        if stage.clock < panel.delays[at][0]:
            raise NotNow("sight")
        self._done(("hear", name), heard_more(stage, at))

    def ring(self):
        """The output is rung at the present moment."""
        stage = self._stages[-1]
        if stage.rang is not None:
            raise NotNow("rung")
        self._done(("ring",), rung_now(stage))

    def tick(self):
        """The next moment comes."""
        stage = self._stages[-1]
        if stage.clock == self._first.panel.length:
            raise NotNow("end")
        self._done(("tick",), ticked(stage))

    def close(self, row, rung):
        """The round is over; the book tells the true times of the inputs, and when the output rang."""
        stage = self._stages[-1]
        panel = self._first.panel
        check_row_of(row, len(panel.inputs), panel.length)
        if rung is not None and not is_within(rung, 0, panel.length + 2):
            raise BadMoment("the output rings never, or at a number from 0 to two behind the last moment")
        if stage.rang is None and stage.clock < panel.length:
            raise NotNow("end")
        if not can_arrive(stage, row):
            raise NotNow("row")
        if not can_ring(stage, rung):
            raise NotNow("rung")
        self._done(("close", row, rung), closed(stage, row, rung))

    def put(self, rule):
        """From now on the works has a rule more."""
        stage = self._at_begin()
        self._done(("put", rule), ruled(stage, stage.before.now.with_rule(rule)))

    def drop(self, name):
        """From now on the works has no rule of this name."""
        stage = self._at_begin()
        self._done(("drop", name), ruled(stage, stage.before.now.without(name)))

    def undo(self):
        """The last deed that stands is taken back."""
        if not self._deeds:
            raise NothingDone("no deed stands")
        self._deeds.pop()
        self._stages.pop()

    def works(self):
        """The works as it is now."""
        return self._stages[-1].before.now

    def past(self):
        """The tuple of the letters of the rounds that are over."""
        return self._stages[-1].before.word

    def mode(self):
        """The mode of these letters in the works as it is now."""
        return self._stages[-1].before.place

    def moment(self):
        """The present moment."""
        return self._stages[-1].clock

    def heard(self):
        """The row of the arrivals of this round so far."""
        return self._stages[-1].arrived

    def rung(self):
        """The moment at which the output was rung in this round, or None."""
        return self._stages[-1].rang

    def book(self):
        """The list of pairs of the row and the ringing of the rounds that are over."""
        return list(self._stages[-1].before.pages)

    def broken(self):
        """The ascending tuple of the indexes of the rounds in which a promise was broken."""
        return self._stages[-1].before.lapses

    def log(self):
        """The list of the deeds that stand."""
        return list(self._deeds)

    def first(self):
        """The works at first."""
        return self._first

    def copy(self):
        """A plant of its own with the same deeds."""
        found = Plant(self._first)
        found._deeds = list(self._deeds)
        found._stages = list(self._stages)
        return found

    def tried(self, work):
        """Call work with this plant and return its result; all deeds stand as they do now if it raises an exception."""
        deeds = list(self._deeds)
        stages = list(self._stages)
        done = None
        try:
            found = work(self)
            done = True
        finally:
            # No handler: an exception of whatever kind goes on.
            if done is None:
                self._deeds, self._stages = deeds, stages
        return found

    def advice(self):
        """Whether it is well to ring now, and whether it is well to wait; None if the output was rung."""
        stage = self._stages[-1]
        if stage.rang is not None:
            return None
        task = kept_at(stage)
        return may_ring(task, stage), may_wait(task, stage)

    def is_sure(self):
        """Tell whether from here all promises can be kept, for ever."""
        stage = self._stages[-1]
        return is_sure_by(kept_at(stage), stage)

    def threat(self):
        """Arrivals, and environments against all that can be done from here; None if the plant is sure."""
        stage = self._stages[-1]
        task = kept_at(stage)
        return None if is_sure_by(task, stage) else found_threat(task, stage)

    def is_threat(self, thing):
        """Tell whether any value is a threat to the plant as it is."""
        stage = self._stages[-1]
        return is_threat_to(kept_at(stage), stage, thing)

    def lost_in(self):
        """Within how many rounds, this one counted, a promise can be broken from here; None if the plant is sure."""
        stage = self._stages[-1]
        if is_sure_by(kept_at(stage), stage):
            return None
        rounds = 1
        while is_sure_by(kept_above(stage, rounds), stage):
            rounds += 1
        return rounds

    def _at_begin(self):
        """The stage of a round in which nothing was done."""
        stage = self._stages[-1]
        if not is_begun(stage):
            raise NotNow("round")
        return stage

    def _done(self, deed, stage):
        """Let a deed stand that leads to a stage."""
        self._deeds.append(deed)
        self._stages.append(stage)


def check_plant(plant):
    """Refuse what is no Plant."""
    if not isinstance(plant, Plant):
        raise BadPlant("a plant is expected")
