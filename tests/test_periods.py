"""Points 23 and 24: pits by periods, and the ground of copies."""

import itertools
import unittest
from random import Random

from pitlots import errors
from pitlots.grounds import Ground
from pitlots.periods import best_by_when, copies, worth_by_when
from pitlots.worths import all_best, best_worth
from tests import faults, plain

GROUND, PERIODS = Ground(((), (0,))), ((-3, 5), (-1, 5))


def all_by_periods(covers, many):
    """All pits by so many periods."""
    return [pits for pits in itertools.product(plain.pits_of(covers), repeat=many)
            if all(set(one) <= set(other) for one, other in zip(pits, pits[1:]))]


def worth_when(periods, pits):
    """What pits by periods are worth, block by block."""
    found = 0
    for block in pits[-1]:
        first = min(period for period, pit in enumerate(pits) if block in pit)
        found += periods[first][block]
    return found


def some_periods(dice, many, size):
    width = dice.choice((1, 2, 5, 25))
    return tuple(plain.some_row(dice, size, -width, width) for _ in range(many))


def cases():
    dice = Random(23)
    for covers in plain.MIDDLE:
        for many in range(1, 10 // len(covers) + 1):
            if len(plain.pits_of(covers)) ** many < 5000:
                for _ in range(2):
                    yield covers, some_periods(dice, many, len(covers))


class PeriodsTest(unittest.TestCase):
    def test_by_all_pits_by_periods(self):
        for covers, periods in cases():
            ground, every = Ground(covers), all_by_periods(covers, len(periods))
            worth, pits = best_by_when(ground, periods)
            with self.subTest(covers=covers, periods=periods):
                self.assertEqual(worth, max(worth_when(periods, other) for other in every))
                self.assertIn(pits, every)
                self.assertEqual(worth_when(periods, pits), worth)
                for other in every[:200]:
                    self.assertEqual(worth_by_when(ground, periods, other), worth_when(periods, other))

    def test_what_is_no_pits_by_periods(self):
        for covers, periods in cases():
            pits = plain.pits_of(covers)
            every = all_by_periods(covers, len(periods))
            for other in list(itertools.product(pits, repeat=len(periods)))[:200]:
                told = worth_when(periods, other) if other in every else None
                self.assertEqual(worth_by_when(Ground(covers), periods, other), told)
            for wrong in (every[0][1:], every[-1] + every[-1][-1:], list(every[0]), every[0][:-1] + ((1, 0),)):
                self.assertIsNone(worth_by_when(Ground(covers), periods, wrong))

    def test_copies(self):
        for covers, periods in cases():
            many, last = len(covers), len(periods) - 1
            place = {(period, block): (last - period) * many + block
                     for period in range(last + 1) for block in range(many)}
            firsts, worths = {}, {}
            for (period, block), number in place.items():
                firsts[number] = {place[period, first] for first in covers[block]}
                worths[number] = periods[period][block]
                if period < last:
                    firsts[number].add(place[period + 1, block])
                    worths[number] -= periods[period + 1][block]
            ground, told = copies(Ground(covers), periods)
            self.assertIsInstance(ground, Ground)
            self.assertEqual(ground.covers, tuple(tuple(sorted(firsts[number])) for number in sorted(firsts)))
            self.assertEqual(told, tuple(worths[number] for number in sorted(worths)))

    def test_best_worth_of_the_copies(self):
        for covers, periods in cases():
            ground, worths = copies(Ground(covers), periods)
            self.assertEqual(best_by_when(Ground(covers), periods)[0], best_worth(ground, worths))

    def test_one_period(self):
        dice = Random(231)
        for covers in plain.MIDDLE:
            worths = plain.some_row(dice, len(covers), -25, 25)
            ground, told = copies(Ground(covers), (worths,))
            self.assertEqual((ground.covers, told), (covers, worths))
            worth, pits = best_by_when(Ground(covers), (worths,))
            self.assertEqual(worth, best_worth(Ground(covers), worths))
            self.assertIn(pits[0], all_best(Ground(covers), worths))

    def test_ten_copies(self):
        one, ten = Ground(((),)), Ground(((),) * 10)
        self.assertEqual(best_by_when(one, tuple((worth,) for worth in (-25, 3, 7, 7, 2, 0, 7, 6, 25, 24))),
                         (25, ((),) * 8 + ((0,), (0,))))
        self.assertEqual(best_by_when(one, ((-1,),) * 10), (0, ((),) * 10))
        self.assertEqual(best_by_when(ten, ((25,) * 10,)), (250, (tuple(range(10)),)))
        five = Ground(((), (0,), (1,), (2,), (3,)))
        self.assertEqual(best_by_when(five, ((-25, 0, 0, 0, 25), (25, -25, -25, -25, -25)))[0], 25)
        self.assertEqual(worth_by_when(five, ((1,) * 5, (2,) * 5), ((0, 1), (0, 1, 2, 3, 4))), 8)
        for ground, periods in ((one, ((1,),) * 11), (ten, ((1,) * 10,) * 2), (five, ((1,) * 5,) * 3),
                                (Ground(((),) * 6), ((0,) * 6,) * 2), (Ground(((),) * 4), ((0,) * 4,) * 3)):
            self.tell(None, ground, periods)

    def test_greatest_differences(self):
        ground, worths = copies(Ground(((),)), ((25,), (-25,), (25,)))
        self.assertEqual((ground.covers, worths), (((), (0,), (1,)), (25, -50, 50)))

    def test_nothing_dug(self):
        self.assertEqual(worth_by_when(GROUND, PERIODS, ((), ())), 0)
        self.assertEqual(worth_by_when(GROUND, PERIODS, ((), (0,))), -1)
        self.assertEqual(worth_by_when(GROUND, PERIODS, ((0,), (0,))), -3)

    def tell(self, index, ground, periods):
        for function, rest in ((best_by_when, ()), (copies, ()), (worth_by_when, (None,))):
            with self.subTest(function.__name__, periods=str(periods)[:80]):
                with self.assertRaises(errors.BadPeriods) as caught:
                    function(ground, periods, *rest)
                self.assertEqual(vars(caught.exception), {"index": index})

    def test_wrong_periods(self):
        for periods, index in (
                ((), None), ([], None), ([(0, 0)], None), (None, None), (True, None), (((0, 0),) * 6, None), ({}, None),
                ((None,), 0), (((0, 0), (0,)), 1), (((0, 0), (0, 0, 0)), 1), (((0, 0), (0, 26)), 1),
                (((-26, 0), (0, 0)), 0), (((0, 0), (0, 0), (0, True)), 2), (((0, 0), [0, 0]), 1),
                (((0, 0), (0, "0")), 1), (((0, None), (0, 0)), 0), ((0, 0), 0), (((0, 0), ()), 1)):
            self.tell(index, GROUND, periods)
        self.assertEqual(best_by_when(GROUND, ((25, -25),) * 5)[0], 25)

    def test_values_that_are_none(self):
        for value in faults.WRONG + (((0,),), ((0,), (0, 1), (0, 1)), ((0, 1), (0,)), ((1,), (0, 1)), ((), (1,)),
                                     [(0,), (0,)], ((0,), [0]), ((0,), (False,)), ((), (0, 0)), ((), None), ((), "")):
            if not faults.is_one_of(value, [((), ())]):
                with self.subTest(str(value)[:60]):
                    self.assertIsNone(worth_by_when(GROUND, PERIODS, value))

    def test_errors_stand_in_order(self):
        self.assertRaises(errors.BadGround, best_by_when, None, None)
        self.assertRaises(errors.BadPeriods, worth_by_when, GROUND, None, None)


if __name__ == "__main__":
    unittest.main()
