"""Ringings and times as bits tell what the terms, the promises and the slip tell one by one."""

import itertools
import random
import unittest

from roundpromises.bits import (
    all_times,
    allowed_bits,
    condition_bits,
    letter_bits,
    ringing_bit,
    rung_bits,
    time_bit,
    times_in,
    wrong_times,
)
from roundpromises.promises import allowed
from roundpromises.terms import holds, letter_of, letters_of
from tests.helpers import Case, times_of

RINGINGS = [*range(11), None]
NAMES = ("a", "b", "out")


def bit_of(ringing):
    return 1 << (11 if ringing is None else ringing)


def terms():
    for name in NAMES:
        yield ("rings", name)
        yield ("silent", name)
    for one, other in itertools.permutations((*NAMES, "start"), 2):
        for gap in (-8, -3, -1, 0, 1, 2, 8):
            yield ("gap", one, other, gap)


class Bits(Case):
    def rows(self):
        for a, b in ((0, 3), (8, None), (None, None), (2, 2), (None, 7)):
            yield {"a": a, "b": b}

    def test_each_term(self):
        for term, times in itertools.product(terms(), self.rows()):
            wanted = sum(bit_of(out) for out in RINGINGS if holds((term,), {**times, "out": out}))
            self.same(condition_bits((term,), times), wanted)

    def test_cases(self):
        chance = random.Random(1)
        every = list(terms())
        for _ in range(300):
            cases = [
                (letter, tuple(chance.choices(every, k=chance.randint(0, 2))))
                for letter in "xyz"[: chance.randint(0, 3)]
            ]
            for times in self.rows():
                told = letter_bits(cases, times)
                for letter, bits in zip(letters_of(cases), told, strict=True):
                    outs = [out for out in RINGINGS if letter_of(cases, {**times, "out": out}) == letter]
                    self.same(bits, sum(map(bit_of, outs)))

    def test_promises(self):
        chance = random.Random(2)
        conditions = [(), (("rings", "a"),), (("silent", "b"),), (("gap", "a", "b", 1),)]
        for _ in range(300):
            promises = []
            for _ in range(chance.randint(0, 3)):
                names = chance.choice([("a",), ("b",), ("a", "b"), ("start",)])
                low = chance.randint(-8, 8)
                window = (chance.choice(["first", "last", "latest"]), names, low, chance.randint(low, 8))
                promises.append((chance.choice(conditions), chance.choice([window, window, window, ("never",)])))
            for times in self.rows():
                span, may = allowed(promises, ("a", "b"), (times["a"], times["b"]))
                outs = [out for out in RINGINGS[:-1] if span and span[0] <= out <= span[1]] + [None] * may
                self.same(allowed_bits(promises, times), sum(map(bit_of, outs)))

    def test_times_and_slips(self):
        for length in (1, 2, 8):
            times = times_of(length)
            self.same(sum(time_bit(time, length) for time in times), all_times(length))
            self.same(times_in(all_times(length), length), tuple(times))
            for time in times:
                self.same(times_in(time_bit(time, length), length), (time,))
            chance = random.Random(length)
            for slip in range(3):
                for _ in range(50):
                    right = chance.getrandbits(12)
                    wanted = tuple(
                        time for time in times if not all(right & ringing_bit(time, late) for late in range(slip + 1))
                    )
                    self.same(times_in(wrong_times(right, length, slip), length), wanted)
                for time in times:
                    rings = {ringing_bit(time, late) for late in range(slip + 1)}
                    self.same(rung_bits(time, slip), sum(rings))


if __name__ == "__main__":
    unittest.main()
