"""Point 5: what pits are worth, and the best ones."""

import unittest
from random import Random

from pitlots import errors
from pitlots.grounds import Ground
from pitlots.worths import (all_best, best_worth, fates, greatest_best, least_best, with_block, without_block,
                            worth_of)
from tests import plain


def cases():
    """Grounds with several worths for each."""
    dice = Random(5)
    for covers in plain.GREAT:
        for _ in range(6 if len(covers) < 7 else 2):
            yield covers, plain.some_worths(dice, len(covers))
        yield covers, (0,) * len(covers)
        yield covers, (50,) * len(covers)
        yield covers, (-50,) * len(covers)


class WorthsTest(unittest.TestCase):
    def test_worth_of_all_lots(self):
        dice = Random(6)
        for covers in plain.SMALL:
            worths = plain.some_worths(dice, len(covers))
            for lot in plain.all_lots(covers):
                self.assertEqual(worth_of(Ground(covers), worths, lot), plain.worth(worths, lot))

    def test_best_pits(self):
        for covers, worths in cases():
            ground, best = Ground(covers), plain.best_pits(covers, worths)
            self.assertEqual(all_best(ground, worths), best)
            self.assertEqual(best_worth(ground, worths), plain.worth(worths, best[0]))
            self.assertEqual(least_best(ground, worths), plain.common(best))
            self.assertEqual(greatest_best(ground, worths), plain.together(best))
            self.assertIn(plain.common(best), best)
            self.assertIn(plain.together(best), best)

    def test_fates(self):
        for covers, worths in cases():
            best = plain.best_pits(covers, worths)
            told = []
            for block in range(len(covers)):
                many = sum(block in pit for pit in best)
                told.append("never" if many == 0 else "must" if many == len(best) else "may")
            self.assertEqual(fates(Ground(covers), worths), tuple(told))

    def test_with_and_without_block(self):
        for covers, worths in cases():
            sums = [(plain.worth(worths, pit), pit) for pit in plain.pits_of(covers)]
            for block in range(len(covers)):
                self.assertEqual(with_block(Ground(covers), worths, block),
                                 max(total for total, pit in sums if block in pit))
                self.assertEqual(without_block(Ground(covers), worths, block),
                                 max(total for total, pit in sums if block not in pit))

    def test_bounds_of_worths(self):
        ground = Ground(((), (0,)))
        for worth in (-50, 50):
            self.assertEqual(worth_of(ground, (0, worth), (0, 1)), worth)
            self.assertEqual(worth_of(ground, (worth, worth), (0, 1)), 2 * worth)
        wrong = ((0, 51), (0, -51), (51, 0), (0,), (0, 0, 0), (0, True), (False, 0), (0, None), (0, "1"), [0, 0],
                 (0, (0,)), (0, 10 ** 400), (-10 ** 400, 0), {0: 0, 1: 0}, "00", None, 0, ())
        for worths in wrong:
            for call in (lambda: worth_of(ground, worths, ()), lambda: best_worth(ground, worths),
                         lambda: all_best(ground, worths), lambda: least_best(ground, worths),
                         lambda: greatest_best(ground, worths), lambda: fates(ground, worths),
                         lambda: with_block(ground, worths, 0), lambda: without_block(ground, worths, 0)):
                with self.subTest(worths=str(worths)[:40]), self.assertRaises(errors.BadWorths):
                    call()

    def test_a_lot_may_lack_what_it_needs(self):
        self.assertEqual(worth_of(Ground(((), (0,))), (-3, 7), (1,)), 7)
        with self.assertRaises(errors.BadLot):
            worth_of(Ground(((), (0,))), (-3, 7), (1, 0))


if __name__ == "__main__":
    unittest.main()
