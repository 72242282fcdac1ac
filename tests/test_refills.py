"""Points 32, 33 and 37: what is dug and filled again."""

import unittest
from random import Random

from pitlots import errors
from pitlots.grounds import Ground
from pitlots.periods import best_by_when
from pitlots.refills import best_after, best_refill, can_refill, greatest_plan, least_after, least_plan, plan_worth
from pitlots.worths import best_worth
from tests import plain

GROUND, WORTHS, REFILLS = Ground(((), (0,), (0,))), (-4, 3, 2), (2, -1, 0)


def all_plans(covers):
    """All pairs of pits, one in the other."""
    pits = plain.pits_of(covers)
    return [(dug, left) for dug in pits for left in pits if set(left) <= set(dug)]


def worth_of_plan(worths, refills, plan):
    dug, left = plan
    return plain.worth(worths, dug) + plain.worth(refills, set(dug) - set(left))


def cases():
    dice = Random(32)
    for covers in plain.MIDDLE:
        if len(plain.pits_of(covers)) < 80:
            for _ in range(3):
                yield covers, plain.some_worths(dice, len(covers)), plain.some_worths(dice, len(covers))


class RefillsTest(unittest.TestCase):
    def test_can_refill(self):
        dice = Random(321)
        for covers in plain.SMALL:
            pits = plain.pits_of(covers)
            for pit in [pits[0], pits[-1], dice.choice(pits)]:
                for lot in plain.all_lots(covers):
                    rest = tuple(block for block in pit if block not in lot)
                    self.assertIs(can_refill(Ground(covers), pit, lot), set(lot) <= set(pit) and rest in pits)

    def test_can_refill_nothing_and_all(self):
        for covers in plain.GREAT:
            ground, whole = Ground(covers), tuple(range(len(covers)))
            self.assertEqual([can_refill(ground, whole, ()), can_refill(ground, whole, whole)], [True, True])
            self.assertEqual([can_refill(ground, (), ()), can_refill(ground, (), (0,))], [True, False])
            self.assertIs(can_refill(ground, (0,), (0,)), True)
        # What lies beside the pit cannot be filled, though a pit would be left.
        self.assertIs(can_refill(GROUND, (0, 1), (1, 2)), False)
        self.assertIs(can_refill(GROUND, (0, 1), (2,)), False)

    def test_plan_worth(self):
        for covers, worths, refills in cases():
            for plan in all_plans(covers)[::7]:
                self.assertEqual(plan_worth(Ground(covers), worths, refills, *plan),
                                 worth_of_plan(worths, refills, plan))

    def test_best_least_and_greatest(self):
        for covers, worths, refills in cases():
            ground, plans = Ground(covers), all_plans(covers)
            most = max(worth_of_plan(worths, refills, plan) for plan in plans)
            best = [plan for plan in plans if worth_of_plan(worths, refills, plan) == most]
            with self.subTest(covers=covers, worths=worths, refills=refills):
                self.assertEqual(best_refill(ground, worths, refills), most)
                least = tuple(plain.common(part) for part in zip(*best))
                greatest = tuple(plain.together(part) for part in zip(*best))
                self.assertEqual(least_plan(ground, worths, refills), least)
                self.assertEqual(greatest_plan(ground, worths, refills), greatest)
                # Both are plans worth most themselves.
                self.assertIn(least, best)
                self.assertIn(greatest, best)

    def test_after(self):
        dice = Random(371)
        for covers, worths, refills in cases():
            ground, plans, pits = Ground(covers), all_plans(covers), plain.pits_of(covers)
            for pit in (pits[0], pits[-1], dice.choice(pits)):
                after = [plan for plan in plans if set(pit) <= set(plan[0])]
                to_come = {plan: plain.worth(worths, set(plan[0]) - set(pit))
                           + plain.worth(refills, set(plan[0]) - set(plan[1])) for plan in after}
                most = max(to_come.values())
                best = [plan for plan in after if to_come[plan] == most]
                with self.subTest(covers=covers, worths=worths, refills=refills, pit=pit):
                    self.assertEqual(best_after(ground, worths, refills, pit), most)
                    least = tuple(plain.common(part) for part in zip(*best))
                    self.assertEqual(least_after(ground, worths, refills, pit), least)
                    self.assertIn(least, best)

    def test_after_nothing_is_dug(self):
        for covers, worths, refills in cases():
            ground = Ground(covers)
            self.assertEqual(best_after(ground, worths, refills, ()), best_refill(ground, worths, refills))
            self.assertEqual(least_after(ground, worths, refills, ()), least_plan(ground, worths, refills))

    def test_refills_that_cost_and_that_give(self):
        dice = Random(331)
        for covers in plain.GREAT:
            ground, many = Ground(covers), len(covers)
            worths, whole = plain.some_worths(dice, many), tuple(range(many))
            # If filling costs more than all worths are, or gives nothing, the best pits stay open.
            self.assertEqual(best_refill(ground, worths, (-50,) * many), best_worth(ground, worths))
            self.assertEqual(best_refill(ground, worths, (0,) * many), best_worth(ground, worths))
            self.assertEqual(best_refill(ground, (-50,) * many, (50,) * many), 0)
            self.assertEqual(least_plan(ground, (-50,) * many, (50,) * many), ((), ()))
            self.assertEqual(greatest_plan(ground, (-50,) * many, (50,) * many), (whole, ()))
            self.assertEqual(greatest_plan(ground, (0,) * many, (0,) * many), (whole, whole))
            self.assertEqual(best_refill(ground, (50,) * many, (50,) * many), 100 * many)
            self.assertEqual(least_plan(ground, (50,) * many, (-50,) * many), (whole, whole))
            self.assertEqual(best_after(ground, (-50,) * many, (-50,) * many, whole), 0)
            self.assertEqual(best_after(ground, (-50,) * many, (1,) * many, whole), many)
            self.assertEqual(least_after(ground, (-50,) * many, (0,) * many, whole), (whole, ()))

    def test_two_periods(self):
        # To dig and to fill again is to dig by two periods: what stays open first, then what is filled again.
        dice = Random(611)
        for covers in plain.SMALL:
            if len(covers) <= 5:
                worths = plain.some_row(dice, len(covers), -12, 12)
                refills = plain.some_row(dice, len(covers), -12, 12)
                both = tuple(worth + refill for worth, refill in zip(worths, refills))
                self.assertEqual(best_refill(Ground(covers), worths, refills),
                                 best_by_when(Ground(covers), (worths, both))[0])

    def test_errors_of_can_refill(self):
        for pit, lot, error in ((None, None, errors.BadLot), ((1,), None, errors.NotPit), ((0, 1), None, errors.BadLot),
                                ((0, 1), (1, 0), errors.BadLot), ((0, 1), [1], errors.BadLot),
                                ((0, 1), (True,), errors.BadLot), ((0, 1), (3,), errors.BadLot),
                                ([0], (0,), errors.BadLot)):
            self.assertRaises(error, can_refill, GROUND, pit, lot)
        # The lot need be no pit.
        self.assertIs(can_refill(GROUND, (0, 1, 2), (1,)), True)

    def test_errors_of_plan_worth(self):
        for arguments, error in (
                ((None, None, None, None), errors.BadWorths), ((WORTHS, None, None, None), errors.BadRefills),
                ((WORTHS, (0, 0), (0,), ()), errors.BadRefills), ((WORTHS, (0, 0, 51), (0,), ()), errors.BadRefills),
                ((WORTHS, (0, -51, 0), (0,), ()), errors.BadRefills),
                ((WORTHS, (0, 0, True), (0,), ()), errors.BadRefills),
                ((WORTHS, [0, 0, 0], (0,), ()), errors.BadRefills), ((WORTHS, REFILLS, None, None), errors.BadLot),
                ((WORTHS, REFILLS, (1,), None), errors.NotPit), ((WORTHS, REFILLS, (0,), None), errors.BadLot),
                ((WORTHS, REFILLS, (0,), (1,)), errors.NotPit), ((WORTHS, REFILLS, (0,), (0, 1)), errors.NotWithin),
                ((WORTHS, REFILLS, (), (0,)), errors.NotWithin), ((WORTHS, REFILLS, (0, 1), (0, 2)), errors.NotWithin),
                ((WORTHS, REFILLS, (0, 1), (2, 0)), errors.BadLot)):
            with self.subTest(arguments):
                self.assertRaises(error, plan_worth, GROUND, *arguments)
                self.assertRaises(errors.BadGround, plan_worth, None, *arguments)
        self.assertEqual(plan_worth(GROUND, WORTHS, REFILLS, (0, 1), (0, 1)), -1)
        self.assertEqual(plan_worth(GROUND, WORTHS, REFILLS, (), ()), 0)
        self.assertEqual(plan_worth(GROUND, (50, -50, 0), (-50, 50, 0), (0, 1), ()), 0)

    def test_errors_of_the_others(self):
        for function in (best_refill, least_plan, greatest_plan):
            self.assertRaises(errors.BadWorths, function, GROUND, (0, 0, 51), None)
            self.assertRaises(errors.BadRefills, function, GROUND, WORTHS, (0, 0, 51))
        for function in (best_after, least_after):
            self.assertRaises(errors.BadRefills, function, GROUND, WORTHS, None, None)
            self.assertRaises(errors.BadLot, function, GROUND, WORTHS, REFILLS, None)
            self.assertRaises(errors.NotPit, function, GROUND, WORTHS, REFILLS, (2,))


if __name__ == "__main__":
    unittest.main()
