"""What the tests share: strict comparison, junk values, all Tables of a small size."""

import itertools
import unittest

from roundpromises.rows import rows
from roundpromises.sights import Panel
from roundpromises.tables import Table

JUNK = (
    None,
    True,
    False,
    0,
    1,
    -1,
    9,
    1000,
    "",
    "a",
    "out",
    [],
    (),
    {},
    [1],
    (1,),
    (True,),
    {"a": 1},
    (None,) * 4,
    Panel(["a"], 1, None, 0),
)


class Case(unittest.TestCase):
    """A test case that tells True from 1, and asks for just the error that is due."""

    def same(self, found, wanted):
        """Compare plain values, the order of the keys of dicts and True against 1 included."""
        self.assertEqual(found, wanted)
        self.assertEqual(repr(found), repr(wanted))

    def refused(self, error, function, *args, **attributes):
        """Ask for just this error, with these attributes."""
        with self.assertRaises(error) as caught:
            function(*args)
        self.assertIs(type(caught.exception), error, args)
        for name, value in attributes.items():
            found = getattr(caught.exception, name)
            self.assertEqual(found, value)
            self.assertIs(type(found), type(value))


def junk_but(*allowed):
    """All junk values that are none of these, True being no 1."""
    return [thing for thing in JUNK if not any(type(thing) is type(one) and thing == one for one in allowed)]


def late(time):
    """A number by which times can be ordered, never last."""
    return 99 if time is None else time


def times_of(length):
    return list(range(length + 1)) + [None]


def seen_until(row, moment):
    """What until tells, written by another hand."""
    return tuple(time if late(time) <= late(moment) else None for time in row)


def all_answers(size, length):
    """All dicts of answers of a size and a length that do not hang on what comes later."""

    def told(looks, moment):
        # looks: the rows that look alike so far, in one list
        if moment > length:
            return [{row: None for row in looks}]
        split = {}
        for row in looks:
            split.setdefault(seen_until(row, moment), []).append(row)
        parts = []
        for group in split.values():
            parts.append([{row: moment for row in group}] + told(group, moment + 1))
        return [dict(itertools.chain(*(part.items() for part in choice))) for choice in itertools.product(*parts)]

    return told(rows(size, length), 0)


def all_tables(size, length):
    return [Table(size, length, answers) for answers in all_answers(size, length)]


def pairs_of_delays(length):
    return [(least, most) for least in range(length + 2) for most in range(least, length + 2)]


def panels(inputs, length, slips=(0, 1, 2)):
    """All panels with these inputs and this length."""
    return [
        Panel(inputs, length, dict(zip(inputs, pairs)), slip)
        for pairs in itertools.product(pairs_of_delays(length), repeat=len(inputs))
        for slip in slips
    ]
