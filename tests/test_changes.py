"""Points 35 and 36: pits that are dug already, and the way from one to another one."""

import itertools
import unittest
from random import Random

from pitlots import errors
from pitlots.changes import back_row, back_worth, best_from, least_from, never_begun, regret
from pitlots.grounds import Ground
from tests import plain

GROUND, WORTHS, REFILLS = Ground(((), (0,), (0,))), (-4, 1, 2), (0, 5, 0)


def shortest_rows(covers, pit, goal):
    """All shortest rows of deeds from a pit to another one, by all steps between pits."""
    found, pits = {pit: [()]}, set(plain.pits_of(covers))
    while goal not in found:
        longer = {}
        for now, rows in found.items():
            for block in range(len(covers)):
                behind = tuple(sorted(set(now) ^ {block}))
                if behind in pits:
                    deed = ("fill" if block in now else "dig", block)
                    longer.setdefault(behind, []).extend(row + (deed,) for row in rows)
        found = longer
    return found[goal]


def cases():
    dice = Random(35)
    for covers in plain.MIDDLE:
        pits = plain.pits_of(covers)
        for pit in sorted({pits[0], pits[-1], dice.choice(pits), dice.choice(pits)}):
            yield covers, plain.some_worths(dice, len(covers)), pit


class DugAlreadyTest(unittest.TestCase):
    def test_by_all_pits(self):
        for covers, worths, pit in cases():
            ground, pits = Ground(covers), plain.pits_of(covers)
            around = [other for other in pits if set(pit) <= set(other)]
            most = max(plain.worth(worths, other) for other in around)
            best = [other for other in around if plain.worth(worths, other) == most]
            all_best = plain.best_pits(covers, worths)
            with self.subTest(covers=covers, worths=worths, pit=pit):
                self.assertEqual(best_from(ground, worths, pit), most)
                self.assertEqual(least_from(ground, worths, pit), plain.common(best))
                self.assertIn(least_from(ground, worths, pit), best)
                self.assertEqual(regret(ground, worths, pit), plain.worth(worths, all_best[0]) - most)
                self.assertEqual(never_begun(ground, worths, pit),
                                 tuple(block for block in pit if not any(block in other for other in all_best)))

    def test_nothing_and_all_dug(self):
        for covers, worths, _ in cases():
            ground, whole = Ground(covers), tuple(range(len(covers)))
            best = plain.best_pits(covers, worths)
            self.assertEqual((regret(ground, worths, ()), never_begun(ground, worths, ())), (0, ()))
            self.assertEqual(least_from(ground, worths, ()), best[0])
            self.assertEqual(best_from(ground, worths, whole), sum(worths))
            self.assertEqual(least_from(ground, worths, whole), whole)

    def test_ten_blocks(self):
        ten = Ground(((),) * 10)
        self.assertEqual(regret(ten, (-50,) * 10, tuple(range(10))), 500)
        self.assertEqual(never_begun(ten, (-50,) * 10, tuple(range(10))), tuple(range(10)))
        self.assertEqual(best_from(ten, (50,) * 10, ()), 500)

    def test_a_block_that_some_best_pit_has_was_not_in_vain(self):
        # Worth nothing: some best pits have it.
        self.assertEqual(never_begun(Ground(((), ())), (0, -1), (0, 1)), (1,))

    def test_errors(self):
        for function in (best_from, least_from, regret, never_begun):
            for arguments, error in (((None, WORTHS, ()), errors.BadGround), ((GROUND, None, None), errors.BadWorths),
                                     ((GROUND, (0, 0, 51), ()), errors.BadWorths),
                                     ((GROUND, [0, 0, 0], ()), errors.BadWorths),
                                     ((GROUND, WORTHS, None), errors.BadLot), ((GROUND, WORTHS, (0, 0)), errors.BadLot),
                                     ((GROUND, WORTHS, (False,)), errors.BadLot),
                                     ((GROUND, WORTHS, (2,)), errors.NotPit)):
                self.assertRaises(error, function, *arguments)


class BackTest(unittest.TestCase):
    def test_least_of_the_shortest_rows(self):
        dice = Random(36)
        for covers in plain.SMALL:
            pits = plain.pits_of(covers)
            for pit, goal in [(pits[0], pits[-1]), (pits[-1], pits[0])] + [dice.choices(pits, k=2) for _ in range(6)]:
                if len(set(pit) ^ set(goal)) <= 6:
                    row = back_row(Ground(covers), pit, goal)
                    with self.subTest(covers=covers, pit=pit, goal=goal):
                        self.assertEqual(row, min(shortest_rows(covers, pit, goal)))
                        self.assertEqual(len(row), len(set(pit) ^ set(goal)))

    def test_its_own_goal(self):
        for covers, worths, pit in cases():
            self.assertEqual(back_row(Ground(covers), pit, pit), ())
            self.assertEqual(back_worth(Ground(covers), worths, worths, pit, pit), 0)

    def test_great_grounds(self):
        for covers in plain.GREAT_SHAPES.values():
            ground, whole = Ground(covers), tuple(range(10))
            self.assertEqual(back_row(ground, (), whole), tuple(("dig", block) for block in whole))
            row = back_row(ground, whole, ())
            self.assertEqual(sorted(row), [("fill", block) for block in whole])
            self.assertTrue(plain.is_row(covers, [block for _, block in row][::-1]))
        whole = tuple(range(10))
        self.assertEqual(back_row(Ground(((),) * 10), whole, ()), tuple(("fill", block) for block in whole))

    def test_worth(self):
        dice = Random(361)
        for covers, worths, pit in cases():
            refills, goal = plain.some_worths(dice, len(covers)), dice.choice(plain.pits_of(covers))
            told = plain.worth(worths, set(goal) - set(pit)) + plain.worth(refills, set(pit) - set(goal))
            self.assertEqual(back_worth(Ground(covers), worths, refills, pit, goal), told)
            # It is what the deeds of the row bring.
            row = back_row(Ground(covers), pit, goal)
            self.assertEqual(told, sum({"dig": worths, "fill": refills}[word][block] for word, block in row))

    def test_errors(self):
        for pit, goal, error in ((None, None, errors.BadLot), ((1,), None, errors.NotPit), ((0,), None, errors.BadLot),
                                 ((0,), (2,), errors.NotPit), ((0,), (1, 0), errors.BadLot), ([0], (0,), errors.BadLot),
                                 ((0,), (True,), errors.BadLot), ((0, 3), (2,), errors.BadLot)):
            self.assertRaises(error, back_row, GROUND, pit, goal)
            self.assertRaises(error, back_worth, GROUND, WORTHS, REFILLS, pit, goal)
            self.assertRaises(errors.BadGround, back_row, None, pit, goal)
            self.assertRaises(errors.BadRefills, back_worth, GROUND, WORTHS, (0, 0), pit, goal)
            self.assertRaises(errors.BadWorths, back_worth, GROUND, (0, 0), (0, 0), pit, goal)
        for worths, refills in itertools.permutations((WORTHS, (0, 0, 51)), 2):
            error = errors.BadRefills if worths == WORTHS else errors.BadWorths
            self.assertRaises(error, back_worth, GROUND, worths, refills, (), ())


if __name__ == "__main__":
    unittest.main()
