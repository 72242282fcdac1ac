"""Point 17: rows of pits."""

import itertools
import math
import unittest

from pitlots import errors
from pitlots.grounds import Ground
from pitlots.rows import count_rows, place_of, row_at
from tests import plain

GROUND, WHOLE = Ground(((), (), (0, 1), (1,))), (0, 1, 2, 3)


class RowsTest(unittest.TestCase):
    def test_all_rows_of_all_pits(self):
        for covers in plain.SMALL:
            ground = Ground(covers)
            for pit in plain.pits_of(covers):
                rows = plain.rows_of(covers, pit)
                self.assertEqual(count_rows(ground, pit), len(rows))
                for number, row in enumerate(rows):
                    self.assertEqual(row_at(ground, pit, number), row)
                    if number < 60:
                        self.assertEqual(place_of(ground, pit, row), number)

    def test_rows_of_greater_pits(self):
        for covers in plain.some_covers(17, 12, 8):
            if len(covers) > 6:
                ground, pit = Ground(covers), tuple(range(len(covers)))
                rows = plain.rows_of(covers, pit)
                self.assertEqual(count_rows(ground, pit), len(rows))
                for number in {0, 1, len(rows) // 2, len(rows) - 1} & set(range(len(rows))):
                    self.assertEqual(row_at(ground, pit, number), rows[number])
                    self.assertEqual(place_of(ground, pit, rows[number]), number)

    def test_ten_blocks(self):
        whole = tuple(range(10))
        free, line = Ground(plain.GREAT_SHAPES["ten free"]), Ground(plain.GREAT_SHAPES["long chain"])
        self.assertEqual(count_rows(free, whole), math.factorial(10))
        self.assertEqual(row_at(free, whole, math.factorial(10) - 1), whole[::-1])
        self.assertEqual(place_of(free, whole, whole[::-1]), math.factorial(10) - 1)
        for number, row in enumerate(itertools.islice(itertools.permutations(whole), 3000)):
            if number % 499 == 0:
                self.assertEqual((row_at(free, whole, number), place_of(free, whole, row)), (row, number))
        self.assertEqual((count_rows(line, whole), row_at(line, whole, 0), place_of(line, whole, whole)),
                         (1, whole, 0))
        for ground in (free, line):
            with self.assertRaises(errors.BadPlace):
                row_at(ground, whole, count_rows(ground, whole))

    def test_empty_pit(self):
        for covers in plain.GREAT:
            ground = Ground(covers)
            self.assertEqual((count_rows(ground, ()), row_at(ground, (), 0), place_of(ground, (), ())), (1, (), 0))
            with self.assertRaises(errors.BadPlace):
                row_at(ground, (), 1)
            with self.assertRaises(errors.BadRow):
                place_of(ground, (), (0,))

    def test_numbers(self):
        for number in (5, 6, -1, True, False, None, "0", (0,), [0], 10 ** 400, -10 ** 400):
            with self.subTest(number=str(number)[:20]), self.assertRaises(errors.BadPlace):
                row_at(GROUND, WHOLE, number)
        self.assertEqual(row_at(GROUND, WHOLE, 4), (1, 3, 0, 2))

    def test_wrong_rows(self):
        for row in ((0, 1, 2), (0, 1, 2, 3, 3), (0, 1, 1, 3), (2, 0, 1, 3), (0, 2, 1, 3), (3, 1, 0, 2), (0, 1, 2, 4),
                    [0, 1, 2, 3], (0, True, 2, 3), (False, 1, 2, 3), (0, 1, "2", 3), (0, 1, (2,), 3), (), None, 0,
                    (0, 1, 2, -1), (0, 1, 2, 10 ** 400), {0: 1}, (0, 1, 2, None)):
            with self.subTest(row=str(row)[:20]), self.assertRaises(errors.BadRow):
                place_of(GROUND, WHOLE, row)
        with self.assertRaises(errors.BadRow):
            place_of(GROUND, (0, 1), (1, 3))
        with self.assertRaises(errors.BadRow):
            place_of(GROUND, (1, 3), (1, 3, 0))

    def test_wrong_pits(self):
        for pit, error in (((3,), errors.NotPit), ((1, 0), errors.BadLot), ((0, True), errors.BadLot)):
            for call in (lambda: count_rows(GROUND, pit), lambda: row_at(GROUND, pit, -1),
                         lambda: place_of(GROUND, pit, None)):
                with self.assertRaises(error):
                    call()


if __name__ == "__main__":
    unittest.main()
