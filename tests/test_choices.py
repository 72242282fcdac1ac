"""Point 40: blocks with some possible worths each, and the pits that fare least badly."""

import unittest
from random import Random

from pitlots import errors
from pitlots.bounds import sure_pits
from pitlots.choices import count_cases, known_best, least_regret, worst_regret
from pitlots.grounds import Ground
from pitlots.worths import all_best, best_worth, worth_of
from tests import plain

GROUND, CHOICES = Ground(((), (0,))), ((-3, -1), (2, 4))


def plain_regret(covers, choices, pit):
    """The greatest number, over all cases and all pits, by which a pit is worth more."""
    return max(plain.worth(case, other) - plain.worth(case, pit)
               for case in plain.cases_of(choices) for other in plain.pits_of(covers))


def cases():
    dice = Random(40)
    for covers in plain.SMALL:
        for most in (4, 20, 40):
            yield covers, plain.some_choices(dice, len(covers), most)


class ChoicesTest(unittest.TestCase):
    def test_by_all_cases(self):
        known_ones = 0
        for covers, choices in cases():
            ground, pits = Ground(covers), plain.pits_of(covers)
            known = plain.known_pits(covers, choices)
            regrets = [plain_regret(covers, choices, pit) for pit in pits]
            with self.subTest(covers=covers, choices=choices):
                self.assertEqual(count_cases(ground, choices), len(plain.cases_of(choices)))
                self.assertEqual(known_best(ground, choices), known[0] if known else None)
                for pit, told in zip(pits, regrets):
                    self.assertEqual(worst_regret(ground, choices, pit), told)
                least = min(regrets)
                self.assertEqual(least_regret(ground, choices), (least, pits[regrets.index(least)]))
            known_ones += bool(known)
        self.assertTrue(10 < known_ones < len(list(cases())) - 10)

    def test_one_worth(self):
        dice = Random(401)
        for covers in plain.MIDDLE:
            ground, worths = Ground(covers), plain.some_worths(dice, len(covers))
            choices = tuple((worth,) for worth in worths)
            first = all_best(ground, worths)[0]
            self.assertEqual((count_cases(ground, choices), known_best(ground, choices)), (1, first))
            self.assertEqual(least_regret(ground, choices), (0, first))
            for pit in plain.pits_of(covers)[::5]:
                self.assertEqual(worst_regret(ground, choices, pit),
                                 best_worth(ground, worths) - worth_of(ground, worths, pit))

    def test_three_worths(self):
        ground, choices = Ground(((), (0,), (1,))), ((-50, 0, 50),) * 3
        self.assertEqual(count_cases(ground, choices), 27)
        self.assertIsNone(known_best(ground, choices))
        self.assertEqual([worst_regret(ground, choices, tuple(range(many))) for many in range(4)], [150, 100, 100, 150])
        self.assertEqual(least_regret(ground, choices), (100, (0,)))
        # What stands between the least and the greatest worth does not count.
        self.assertEqual(known_best(Ground(((),)), ((0, 1, 2),)), (0,))
        self.assertEqual(known_best(Ground(((),)), ((-2, -1, 0),)), ())
        self.assertEqual(known_best(Ground(((),)), ((-1, 0, 1),)), None)

    def test_first_of_several(self):
        self.assertEqual(known_best(Ground(((), ())), ((0,), (0,))), ())
        self.assertEqual(least_regret(Ground(((), ())), ((-1, 1), (-1, 1))), (2, ()))
        self.assertEqual(least_regret(Ground(((), (), (0, 1))), ((-1, 1), (-1, 1), (-9, -8))), (2, ()))
        self.assertEqual(least_regret(Ground(((), ())), ((-1, 2), (-1, 2))), (2, (0, 1)))
        self.assertEqual(least_regret(Ground(((), ())), ((-2, 1), (-1, 2))), (2, (1,)))

    def test_ten_blocks(self):
        ten = Ground(((),) * 10)
        self.assertEqual(count_cases(ten, ((-1, 0, 1),) * 10), 3 ** 10)
        self.assertEqual(worst_regret(ten, ((-50, 0, 50),) * 10, ()), 500)
        self.assertEqual(least_regret(ten, ((-1, 2),) * 10), (10, tuple(range(10))))
        self.assertEqual(known_best(ten, ((0, 1, 2),) * 9 + ((-2, -1),)), tuple(range(9)))

    def test_sure_pits(self):
        # A pit that is sure between bounds is best by all choices within them.
        for covers, choices in cases():
            bounds = tuple((worths[0], worths[-1]) for worths in choices)
            sure = sure_pits(Ground(covers), bounds)
            self.assertEqual(known_best(Ground(covers), choices), sure[0] if sure else None)

    def test_wrong_choices(self):
        for choices, index in ((None, None), ((), None), (((0,),), None), (((0,),) * 3, None), ([(0,), (0,)], None),
                               ("00", None), (0, None), (True, None), ((0, 0), 0), (((), (0,)), 0), (((0,), ()), 1),
                               (((0,), (0, 1, 2, 3)), 1), (((1, 0), (0,)), 0), (((0,), (0, 0)), 1), (((0,), (51,)), 1),
                               (((-51, 0), (0,)), 0), (((0,), [0]), 1), (((0,), (True,)), 1), (((0, True), (0,)), 0),
                               (((0,), ("0",)), 1), (((0,), (None,)), 1), (((0, 2, 1), None), 0), (((0,), None), 1),
                               (((0,), {0: 0}), 1), (((0,), (0, 1, 1)), 1)):
            for function, rest in ((count_cases, ()), (known_best, ()), (worst_regret, (None,)), (least_regret, ())):
                with self.subTest(function.__name__, choices=str(choices)[:60]):
                    with self.assertRaises(errors.BadChoices) as caught:
                        function(GROUND, choices, *rest)
                    self.assertEqual(vars(caught.exception), {"index": index})
                    self.assertRaises(errors.BadGround, function, 2, choices, *rest)
        self.assertEqual(count_cases(GROUND, ((-50, 50), (-50, 0, 50))), 6)

    def test_wrong_pits(self):
        for pit, error in ((None, errors.BadLot), ([0], errors.BadLot), ((1, 0), errors.BadLot), ((2,), errors.BadLot),
                           ((False,), errors.BadLot), ((1,), errors.NotPit)):
            self.assertRaises(error, worst_regret, GROUND, CHOICES, pit)

    def test_cases_within(self):
        # Fewer possible worths never have a greater regret.
        for covers, choices in cases():
            less = tuple(worths[:1] for worths in choices)
            for pit in plain.pits_of(covers):
                self.assertTrue(worst_regret(Ground(covers), less, pit) <= worst_regret(Ground(covers), choices, pit))


if __name__ == "__main__":
    unittest.main()
