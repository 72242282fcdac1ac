"""Points 18 and 19: purses that pay rows, and papers that show that no lesser one does."""

import itertools
import unittest
from random import Random

from pitlots import errors
from pitlots.grounds import Ground
from pitlots.purses import first_paid, least_purse, purse_paper, shows_purse
from tests import faults, plain

GROUND, WORTHS, WHOLE = Ground(((), (), (0, 1), (1,))), (-4, -3, 9, 2), (0, 1, 2, 3)


def cases():
    """Grounds with worths and a pit."""
    dice = Random(18)
    for covers in plain.SMALL:
        pits = plain.pits_of(covers)
        for pit in {pits[0], pits[-1], dice.choice(pits), dice.choice(pits)}:
            yield covers, plain.some_worths(dice, len(covers)), pit


def purse_of(worths, row):
    """The least purse that pays a row."""
    return max(-plain.worth(worths, row[:many]) for many in range(len(row) + 1))


def passed_by(row):
    """The pits that a row passes."""
    return [tuple(sorted(row[:many])) for many in range(len(row) + 1)]


def is_plain_paper(covers, worths, pit, purse, value):
    """Whether a tuple of pits is a purse paper, by all rows of the pit."""
    if list(value) != sorted(set(value), key=lambda other: (len(other), other)):
        return False
    if not all(set(other) <= set(pit) and plain.worth(worths, other) <= -purse for other in value):
        return False
    return all(set(passed_by(row)) & set(value) for row in plain.rows_of(covers, pit))


class PursesTest(unittest.TestCase):
    def test_by_all_rows(self):
        for covers, worths, pit in cases():
            ground = Ground(covers)
            purses = [(purse_of(worths, row), row) for row in plain.rows_of(covers, pit)]
            least = min(purses)[0]
            self.assertEqual(least_purse(ground, worths, pit), least)
            for purse in {0, least - 1, least, least + 1, least + 3, 500}:
                if 0 <= purse <= 500:
                    paid = min((row for need, row in purses if need <= purse), default=None)
                    self.assertEqual(first_paid(ground, worths, pit, purse), paid)

    def test_empty_pit(self):
        for covers in plain.GREAT:
            ground, worths = Ground(covers), (-50,) * len(covers)
            self.assertEqual((least_purse(ground, worths, ()), purse_paper(ground, worths, ())), (0, None))
            self.assertEqual((first_paid(ground, worths, (), 0), first_paid(ground, worths, (), 500)), ((), ()))
            for value in ((), ((),), ((0,),)):
                self.assertIs(shows_purse(ground, worths, (), 1, value), False)

    def test_ten_blocks(self):
        whole = tuple(range(10))
        for covers in plain.GREAT_SHAPES.values():
            ground = Ground(covers)
            self.assertEqual(least_purse(ground, (-50,) * 10, whole), 500)
            self.assertEqual(first_paid(ground, (-50,) * 10, whole, 500), whole)
            self.assertIsNone(first_paid(ground, (-50,) * 10, whole, 499))
            self.assertEqual(purse_paper(ground, (-50,) * 10, whole), (whole,))
            self.assertEqual((least_purse(ground, (50,) * 10, whole), purse_paper(ground, (50,) * 10, whole)),
                             (0, None))
        self.assertEqual(first_paid(Ground(((),) * 10), (-1, -1, -1, -1, -1, 5, 0, 0, 0, 1), whole, 0),
                         (5, 0, 1, 2, 3, 4, 6, 7, 8, 9))

    def test_the_least_row_is_not_the_first_that_fits_at_first(self):
        # A purse of 3 pays 0 first, but then neither 1 nor 2.
        ground, worths = Ground(((), (), ())), (-2, -3, 5)
        self.assertEqual(first_paid(ground, worths, (0, 1, 2), 3), (0, 2, 1))
        self.assertEqual(first_paid(ground, worths, (0, 1), 5), (0, 1))
        self.assertEqual(first_paid(Ground(((), (), (1,))), (-2, -3, 5), (0, 1, 2), 3), (1, 2, 0))

    def test_purses(self):
        for purse in (0, 5, 500):
            first_paid(GROUND, WORTHS, WHOLE, purse)
        for purse in (-1, 501, True, False, None, "5", (5,), [5], 10 ** 400):
            with self.subTest(purse=str(purse)[:20]):
                with self.assertRaises(errors.BadPurse):
                    first_paid(GROUND, WORTHS, WHOLE, purse)
                with self.assertRaises(errors.BadPurse):
                    shows_purse(GROUND, WORTHS, WHOLE, purse, ())
        with self.assertRaises(errors.BadPurse):
            shows_purse(GROUND, WORTHS, WHOLE, 0, ((0, 1), (0, 1, 3)))
        for purse in (1, 500):
            self.assertIs(shows_purse(GROUND, WORTHS, WHOLE, purse, ()), False)


class PapersTest(unittest.TestCase):
    def test_papers_for_the_least_purse(self):
        for covers, worths, pit in cases():
            least, value = least_purse(Ground(covers), worths, pit), purse_paper(Ground(covers), worths, pit)
            self.assertIs(value is None, least == 0)
            if value is not None:
                self.assertIsInstance(value, tuple)
                self.assertTrue(is_plain_paper(covers, worths, pit, least, value))
                for purse in {1, least - 1, least, least + 1, 500}:
                    if 1 <= purse <= 500:
                        self.assertIs(shows_purse(Ground(covers), worths, pit, purse, value), purse <= least)

    def test_papers_just_for_purses_not_above_the_least(self):
        for covers, worths, pit in cases():
            least = least_purse(Ground(covers), worths, pit)
            within = [other for other in plain.pits_of(covers) if set(other) <= set(pit)]
            for purse in {1, least, least + 1, 50}:
                if purse >= 1:
                    # If any is one then that of all pits which are worth so little is.
                    all_low = tuple(other for other in within if plain.worth(worths, other) <= -purse)
                    self.assertIs(shows_purse(Ground(covers), worths, pit, purse, all_low), purse <= least)

    def test_all_tuples_of_few_pits(self):
        dice = Random(181)
        for covers in plain.SMALL:
            if len(covers) < 5:
                pit, worths = tuple(range(len(covers))), plain.some_row(dice, len(covers), -4, 2)
                pits = plain.pits_of(covers)
                for value in itertools.chain(*[itertools.permutations(pits, many) for many in (0, 1, 2)]):
                    for purse in (1, 3):
                        right = is_plain_paper(covers, worths, pit, purse, value)
                        self.assertIs(shows_purse(Ground(covers), worths, pit, purse, value), right)

    def test_parts_of_papers(self):
        dice, seen = Random(182), {True: 0, False: 0}
        for covers, worths, pit in cases():
            value = purse_paper(Ground(covers), worths, pit)
            if value:
                least = least_purse(Ground(covers), worths, pit)
                for _ in range(10):
                    part = tuple(other for other in value if dice.randint(0, 3))
                    right = is_plain_paper(covers, worths, pit, least, part)
                    seen[right] += part != value
                    self.assertIs(shows_purse(Ground(covers), worths, pit, least, part), right)
        self.assertTrue(min(seen.values()) > 10, seen)

    def test_any_value(self):
        self.assertIs(shows_purse(GROUND, WORTHS, WHOLE, 5, ((0, 1), (0, 1, 3))), True)
        for value in faults.WRONG + (((0, 1, 3), (0, 1)), ((0, 1), (0, 1), (0, 1, 3)), [(0, 1), (0, 1, 3)],
                                    ([0, 1], (0, 1, 3)), ((0, 1), (0, 3)), ((0, 1), (1, 0)), ((0, True), (0, 1, 3)),
                                    ((0, 1),), ((0, 1, 3),), ((0, 1), (0, 1, 3), None), ((0, 1), (0, 1, 3), ()),
                                    ((0,), (0, 1), (0, 1, 3)), ((0, 1), (0, 1, 3), (0, 1, 2, 3)), ((0, 1), (0, 1, 4))):
            with self.subTest(value=str(value)[:40]):
                self.assertIs(shows_purse(GROUND, WORTHS, WHOLE, 5, value), False)

    def test_pits_beside_the_pit_do_not_count(self):
        ground, worths = Ground(((), ())), (-3, -5)
        self.assertIs(shows_purse(ground, worths, (0,), 3, ((0,),)), True)
        self.assertIs(shows_purse(ground, worths, (0,), 3, ((0,), (1,))), False)
        self.assertIs(shows_purse(ground, worths, (0,), 3, ((0,), (0, 1))), False)

    def test_wrong_worths_and_pits(self):
        for worths, pit, error in (((0, 0, 0, 51), (3,), errors.BadWorths), (WORTHS, (3,), errors.NotPit),
                                   (WORTHS, (1, 0), errors.BadLot), ((0, 0, 0, -51), None, errors.BadWorths)):
            for call in (lambda: least_purse(GROUND, worths, pit), lambda: first_paid(GROUND, worths, pit, -1),
                         lambda: purse_paper(GROUND, worths, pit), lambda: shows_purse(GROUND, worths, pit, 0, 0)):
                with self.assertRaises(error):
                    call()


if __name__ == "__main__":
    unittest.main()
