"""Point 34: doubled grounds, whose pits are plans."""

import unittest
from random import Random

from pitlots import errors
from pitlots.doubling import as_pit, doubled, doubled_worths, of_pit
from pitlots.grounds import Ground
from pitlots.pits import all_pits
from pitlots.refills import best_refill, greatest_plan, least_plan, plan_worth
from pitlots.worths import best_worth, greatest_best, least_best, worth_of
from tests import plain

GROUND = Ground(((), (0,)))
FIVE, SIX, TEN = Ground(((), (0,), (0,), (1, 2), ())), Ground(((),) * 6), Ground(((),) * 10)
FEW = [covers for covers in plain.MIDDLE + plain.some_covers(34, 12, 5) if len(covers) <= 5]


def all_plans(covers):
    pits = plain.pits_of(covers)
    return [(dug, left) for dug in pits for left in pits if set(left) <= set(dug)]


class DoublingTest(unittest.TestCase):
    def test_ground(self):
        for covers in FEW:
            ground = doubled(Ground(covers))
            self.assertIsInstance(ground, Ground)
            self.assertEqual(ground.covers, plain.doubled(covers))

    def test_ground_told(self):
        self.assertEqual(doubled(Ground(((),))).covers, ((), (0,)))
        self.assertEqual(doubled(Ground(((), (), (0, 1)))).covers,
                         ((), (0,), (), (2,), (0, 2), (1, 3, 4)))

    def test_worths(self):
        dice = Random(341)
        for covers in FEW:
            worths, refills = (plain.some_row(dice, len(covers), -25, 25) for _ in range(2))
            told = doubled_worths(Ground(covers), worths, refills)
            for block in range(len(covers)):
                self.assertEqual(told[2 * block:2 * block + 2], (worths[block] + refills[block], -refills[block]))
            self.assertEqual(len(told), 2 * len(covers))

    def test_pits_are_plans(self):
        dice = Random(342)
        for covers in FEW:
            ground, twice = Ground(covers), Ground(plain.doubled(covers))
            worths, refills = (plain.some_row(dice, len(covers), -25, 25) for _ in range(2))
            told = doubled_worths(ground, worths, refills)
            pits = []
            for dug, left in all_plans(covers):
                pit = as_pit(ground, dug, left)
                self.assertEqual(pit, tuple(sorted([2 * block for block in dug] + [2 * block + 1 for block in left])))
                self.assertEqual(of_pit(ground, pit), (dug, left))
                self.assertEqual(worth_of(twice, told, pit), plan_worth(ground, worths, refills, dug, left))
                pits.append(pit)
            self.assertEqual(sorted(pits), sorted(all_pits(twice)))

    def test_best_pits_are_best_plans(self):
        dice = Random(343)
        for covers in FEW:
            ground, twice, width = Ground(covers), doubled(Ground(covers)), dice.choice((1, 3, 25))
            worths, refills = (plain.some_row(dice, len(covers), -width, width) for _ in range(2))
            told = doubled_worths(ground, worths, refills)
            self.assertEqual(best_worth(twice, told), best_refill(ground, worths, refills))
            self.assertEqual(of_pit(ground, least_best(twice, told)), least_plan(ground, worths, refills))
            self.assertEqual(of_pit(ground, greatest_best(twice, told)), greatest_plan(ground, worths, refills))

    def test_nothing_and_all(self):
        for covers in FEW:
            ground, whole = Ground(covers), tuple(range(len(covers)))
            self.assertEqual((as_pit(ground, (), ()), of_pit(ground, ())), ((), ((), ())))
            self.assertEqual(as_pit(ground, whole, whole), tuple(range(2 * len(covers))))
            self.assertEqual(of_pit(ground, tuple(range(2 * len(covers)))), (whole, whole))
            self.assertEqual(of_pit(ground, as_pit(ground, whole, ())), (whole, ()))

    def test_five_and_six_blocks(self):
        self.assertEqual(len(doubled(FIVE)), 10)
        self.assertEqual(doubled_worths(FIVE, (0,) * 5, (1,) * 5), (1, -1) * 5)
        self.assertEqual(as_pit(FIVE, (0, 4), (4,)), (0, 8, 9))
        self.assertEqual(of_pit(FIVE, (0, 8, 9)), ((0, 4), (4,)))
        for ground in (SIX, TEN):
            many = len(ground)
            self.assertRaises(errors.TooGreat, doubled, ground)
            self.assertRaises(errors.TooGreat, doubled_worths, ground, (0,) * many, (0,) * many)
            self.assertRaises(errors.TooGreat, as_pit, ground, (), ())
            self.assertRaises(errors.TooGreat, of_pit, ground, ())

    def test_the_greatest_worths(self):
        for worth, refill, told in ((50, 0, (50, 0)), (25, 25, (50, -25)), (0, 50, (50, -50)), (1, 49, (50, -49)),
                                    (-50, 0, (-50, 0)), (-25, -25, (-50, 25)), (0, -50, (-50, 50)), (50, -50, (0, 50)),
                                    (-50, 50, (0, -50)), (-1, -49, (-50, 49))):
            self.assertEqual(doubled_worths(GROUND, (0, worth), (0, refill)), (0, 0) + told)
        for worth, refill in ((50, 1), (26, 25), (1, 50), (50, 50), (-50, -1), (-25, -26), (-1, -50), (-50, -50)):
            self.assertRaises(errors.TooHigh, doubled_worths, GROUND, (0, worth), (0, refill))
            self.assertRaises(errors.TooHigh, doubled_worths, GROUND, (worth, 0), (refill, 0))

    def test_errors_stand_in_order(self):
        for function, rest in ((doubled, ()), (doubled_worths, (None, None)), (as_pit, (None, None)),
                               (of_pit, (None,))):
            for ground in (None, ((), (0,)), 2, True):
                self.assertRaises(errors.BadGround, function, ground, *rest)
        # TooGreat comes behind the errors of the other arguments, but of_pit has no doubled ground to ask then.
        high = (50,) * 6
        for worths, refills, error in ((None, None, errors.BadWorths), (high, None, errors.BadRefills),
                                       ((0,) * 5, high, errors.BadWorths), (high, (51,) * 6, errors.BadRefills),
                                       (high, [0] * 6, errors.BadRefills), (high, (True,) * 6, errors.BadRefills),
                                       (high, high, errors.TooGreat)):
            self.assertRaises(error, doubled_worths, SIX, worths, refills)
        for dug, left, error in ((None, None, errors.BadLot), ((6,), (), errors.BadLot), ((0,), None, errors.BadLot),
                                 ((0,), (1, 0), errors.BadLot), ((0,), (1,), errors.NotWithin),
                                 ((0,), (True,), errors.BadLot), ((0, 1), (1,), errors.TooGreat)):
            self.assertRaises(error, as_pit, SIX, dug, left)
        for pit in (None, (1, 0), (1,), (12,), ()):
            self.assertRaises(errors.TooGreat, of_pit, SIX, pit)
        for dug, left, error in (((1,), None, errors.NotPit), ((0,), (1,), errors.NotPit),
                                 ((0,), (0, 1), errors.NotWithin),
                                 ((), (0,), errors.NotWithin), ((0, 1), [0], errors.BadLot)):
            self.assertRaises(error, as_pit, GROUND, dug, left)

    def test_pits_of_the_doubled_ground_that_are_none(self):
        for pit, error in ((None, errors.BadLot), ([0], errors.BadLot), ((1, 0), errors.BadLot), ((4,), errors.BadLot),
                           ((0, 0), errors.BadLot), ((False,), errors.BadLot), ((1,), errors.NotPit),
                           ((2,), errors.NotPit), ((0, 2, 3), errors.NotPit), ((0, 1, 3), errors.NotPit)):
            self.assertRaises(error, of_pit, GROUND, pit)
        self.assertEqual(of_pit(GROUND, (0, 1, 2, 3)), ((0, 1), (0, 1)))


if __name__ == "__main__":
    unittest.main()
