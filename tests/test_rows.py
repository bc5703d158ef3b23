"""Point 10: rows."""

import itertools
import unittest

from roundpromises.errors import BadLength, BadMoment, BadPlaces, BadRow, BadSize
from roundpromises.rows import first_of, is_row, last_of, latest_of, rows, until
from tests.helpers import Case, junk_but, late, seen_until, times_of

BAD_LENGTHS = (0, 9, -1, None, True, "3", [3], (3,), {})


class Rows(Case):
    def test_example(self):
        self.same(first_of((5, None, 2), (0, 1, 2)), 2)
        self.same(last_of((5, None, 2), (0, 1, 2)), None)
        self.same(latest_of((5, None, 2), (0, 1, 2)), 5)
        self.same(until((5, None, 2), 4), (None, None, 2))

    def test_is_row(self):
        for length in range(1, 9):
            for row in ((0,), (length,), (None,), (0, None, length), (None, None, None), (length, 0)):
                self.assertIs(is_row(row, length), True)
            for thing in (
                (length + 1,),
                (-1,),
                (),
                (0, 0, 0, 0),
                [0],
                (True,),
                (False, 0),
                ("0",),
                ((0,),),
                ([],),
                (0, None, length + 1),
                {0: 1},
            ):
                self.assertIs(is_row(thing, length), False, thing)
        for thing in junk_but((1,)):
            self.assertIs(is_row(thing, 1), False, thing)

    def test_is_row_refuses_bad_lengths(self):
        for length in BAD_LENGTHS:
            self.refused(BadLength, is_row, (0,), length)
            self.refused(BadLength, is_row, "no row", length)

    def test_rows_are_all_and_ascend(self):
        self.same(rows(1, 1), [(0,), (1,), (None,)])
        self.same(
            rows(2, 1), [(0, 0), (0, 1), (0, None), (1, 0), (1, 1), (1, None), (None, 0), (None, 1), (None, None)]
        )
        for size, length in itertools.product((1, 2, 3), range(1, 9)):
            found = rows(size, length)
            self.assertEqual(len(found), (length + 2) ** size)
            self.assertTrue(all(is_row(row, length) and len(row) == size for row in found))
            keys = [[late(time) for time in row] for row in found]
            self.assertTrue(all(one < other for one, other in zip(keys, keys[1:])))

    def test_rows_are_new(self):
        found = rows(1, 1)
        found.append("more")
        self.assertEqual(len(rows(1, 1)), 3)

    def test_rows_refuses(self):
        for size in (0, 4, None, True, "1", [1]):
            self.refused(BadSize, rows, size, 3)
            self.refused(BadSize, rows, size, 0)
        for length in BAD_LENGTHS:
            self.refused(BadLength, rows, 3, length)

    def test_first_last_latest(self):
        for size in (1, 2, 3):
            every = [places for many in range(1, size + 1) for places in itertools.combinations(range(size), many)]
            for row in itertools.product((0, 1, 7, 8, None), repeat=size):
                for places in every:
                    times = [row[place] for place in places]
                    moments = [time for time in times if time is not None]
                    self.same(first_of(row, places), min(times, key=late))
                    self.same(last_of(row, places), max(times, key=late))
                    self.same(latest_of(row, places), max(moments) if moments else None)

    def test_first_last_latest_refuse(self):
        for function in (first_of, last_of, latest_of):
            for row in ((), (9,), (True,), [1], (0, 0, 0, 0), None, "012", (-1,)):
                self.refused(BadRow, function, row, (0,))
                self.refused(BadRow, function, row, ())
            for places in ((), (1, 0), (0, 0), (2,), (-1,), [0], (False,), (0, True), None, 0, "0", ("0",), {0: 1}):
                self.refused(BadPlaces, function, (3, 4), places)
            self.refused(BadPlaces, function, (3, 4, 5), (0, 1, 2, 3))

    def test_until(self):
        for size in (1, 2):
            for row in itertools.product(times_of(8), repeat=size):
                for moment in times_of(8):
                    self.same(until(row, moment), seen_until(row, moment))
        self.same(until((8, 0, None), None), (8, 0, None))
        self.same(until((8, 0, None), 0), (None, 0, None))
        self.same(until((8,), 8), (8,))

    def test_until_refuses(self):
        for row in ((), (9,), (True,), [1], None, (0, 0, 0, 0)):
            self.refused(BadRow, until, row, 3)
            self.refused(BadRow, until, row, 9)
        for moment in (9, -1, True, False, "1", [], (1,)):
            self.refused(BadMoment, until, (1, 2), moment)


if __name__ == "__main__":
    unittest.main()
