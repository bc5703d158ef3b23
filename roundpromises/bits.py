"""Ringings and times as the bits of a number.

Of *ringings*, bit r stands for ringing at r, from 0 to 10, and bit 11 for never ringing. Of *times* of a length,
bit t stands for the moment t, and the bit behind the last moment for never.
"""

from roundpromises.promises import LAST_RINGING, span_at
from roundpromises.rows import times_of
from roundpromises.terms import is_term_true, time_at

SILENT = 2048
RINGS = 2047
ALL_RINGINGS = 4095


def allowed_bits(promises, times):
    """The ringings that promises allow at the times of the inputs."""
    low, high, may = span_at(promises, times)
    rings = up_to(high) & ~up_to(low - 1)
    return rings | SILENT if may else rings


def up_to(last):
    """All ringings from 0 to a number, which may be less than 0 or greater than the last ringing."""
    return 0 if last < 0 else RINGS & ((2 << min(last, LAST_RINGING)) - 1)


def letter_bits(cases, times):
    """For each letter, in the order of letters_of, the ringings that leave it at the times of the inputs."""
    left = ALL_RINGINGS
    found = []
    for _, condition in cases:
        bits = left & condition_bits(condition, times)
        found.append(bits)
        left = left & ~bits
    return found + [left]


def condition_bits(condition, times):
    """The ringings of the output with which a condition holds."""
    found = ALL_RINGINGS
    for term in condition:
        found = found & term_bits(term, times)
    return found


def term_bits(term, times):
    """The ringings of the output with which a term is true."""
    if "out" not in term:
        return ALL_RINGINGS if is_term_true(term, times) else 0
    if term[0] != "gap":
        return RINGS if term[0] == "rings" else SILENT
    if term[1] == "out":
        end = time_at(term[2], times)
        return 0 if end is None else up_to(end - term[3])
    begin = time_at(term[1], times)
    return 0 if begin is None else RINGS & ~up_to(begin + term[3] - 1)


def ringing_bit(moment, late):
    """The bit of the ringing when the output is rung at a time, and late by so much."""
    return SILENT if moment is None else 1 << (moment + late)


def rung_bits(moment, slip):
    """The ringings when the output is rung at a time, and late by each slip up to one."""
    return SILENT if moment is None else ((2 << slip) - 1) << moment


def time_bit(moment, length):
    """The bit of a time."""
    return 1 << (length + 1 if moment is None else moment)


def all_times(length):
    """The bits of all times of a length."""
    return (4 << length) - 1


def times_in(bits, length):
    """The ascending tuple of the times whose bits a number has."""
    return tuple([time for at, time in enumerate(times_of(length)) if bits >> at & 1])


def wrong_times(ringings, length, slip):
    """The times at which the output may not be rung if only these ringings are right, with each slip up to one."""
    right = ringings & RINGS
    for late in range(1, slip + 1):
        right = right & (ringings & RINGS) >> late
    silent = 2 << length if ringings & SILENT else 0
    return all_times(length) & ~(right & ((2 << length) - 1) | silent)
