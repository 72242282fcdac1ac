"""Point 21: twins of a pit."""

import unittest
from random import Random

from pitlots import errors
from pitlots.grounds import Ground
from pitlots.rounds import fewest_rounds
from pitlots.twins import are_pairs, best_pairs, most_pairs
from tests import faults, plain

GROUND, WHOLE = Ground(((), (), (0, 1), (1,))), (0, 1, 2, 3)


def are_twins(covers, pit, value):
    """Whether a tuple of pairs of integers is twins."""
    blocks = [block for pair in value for block in pair]
    if len(blocks) != len(set(blocks)) or list(value) != sorted(value):
        return False
    return all(set(pair) <= set(pit) and pair[0] < pair[1] and pair[0] not in plain.needed(covers, pair[1])
               for pair in value)


def all_twins(covers, pit):
    """All twins of a pit: those of the rest, with the first block alone, or beside another one."""
    if not pit:
        return [()]
    found = all_twins(covers, pit[1:])
    for other in pit[1:]:
        if pit[0] not in plain.needed(covers, other):
            rest = tuple(block for block in pit[1:] if block != other)
            found = found + [((pit[0], other),) + twins for twins in all_twins(covers, rest)]
    return found


def cases(many):
    dice = Random(21)
    for covers in plain.MIDDLE:
        pits = plain.pits_of(covers)
        for pit in sorted({pits[0], pits[-1]} | {dice.choice(pits) for _ in range(many)}):
            yield covers, pit


class TwinsTest(unittest.TestCase):
    def test_by_all_twins(self):
        for covers, pit in cases(2):
            every = all_twins(covers, pit)
            most = max(len(twins) for twins in every)
            best = best_pairs(Ground(covers), pit)
            with self.subTest(covers=covers, pit=pit):
                self.assertEqual(most_pairs(Ground(covers), pit), most)
                self.assertEqual((len(best), best in every, are_twins(covers, pit, best)), (most, True, True))
                self.assertIs(are_pairs(Ground(covers), pit, best), True)

    def test_all_twins_are_told(self):
        for covers, pit in cases(2):
            if len(pit) < 7:
                for twins in all_twins(covers, pit):
                    self.assertIs(are_pairs(Ground(covers), pit, twins), True)

    def test_changed_twins(self):
        dice, seen = Random(211), {True: 0, False: 0}
        for covers, pit in cases(3):
            every = all_twins(covers, pit)
            for _ in range(20):
                value = list(dice.choice(every))
                what = dice.randint(0, 4)
                if what == 0:
                    dice.shuffle(value)
                elif what == 1:
                    value.append((dice.randrange(len(covers)), dice.randrange(len(covers))))
                elif what == 2 and value:
                    value[dice.randrange(len(value))] = (dice.randrange(len(covers)), dice.randrange(len(covers)))
                elif what == 3 and value:
                    value.append(dice.choice(value))
                elif what == 4 and value:
                    value[0] = value[0][::-1]
                value = tuple(sorted(value) if dice.randint(0, 2) else value)
                answer = are_twins(covers, pit, value)
                seen[answer] += 1
                with self.subTest(covers=covers, pit=pit, value=value):
                    self.assertIs(are_pairs(Ground(covers), pit, value), answer)
        self.assertTrue(min(seen.values()) > 100, seen)

    def test_two_machines(self):
        # As many rounds as blocks, less the most pairs.
        dice = Random(212)
        for covers in plain.GREAT:
            for pit in (tuple(range(len(covers))), dice.choice(plain.pits_of(covers))):
                self.assertEqual(fewest_rounds(Ground(covers), pit, 2),
                                 len(pit) - most_pairs(Ground(covers), pit))

    def test_empty_pit(self):
        for covers in plain.GREAT:
            ground = Ground(covers)
            self.assertEqual((most_pairs(ground, ()), best_pairs(ground, ())), (0, ()))
            self.assertEqual((are_pairs(ground, (), ()), are_pairs(ground, (), ((),))), (True, False))

    def test_one_and_ten_blocks(self):
        self.assertEqual((most_pairs(Ground(((),)), (0,)), best_pairs(Ground(((),)), (0,))), (0, ()))
        self.assertIs(are_pairs(Ground(((),)), (0,), ((0, 0),)), False)
        ten = tuple(range(10))
        self.assertEqual(most_pairs(Ground(((),) * 10), ten), 5)
        self.assertEqual(most_pairs(Ground(((),) * 10), ten[:9]), 4)
        self.assertEqual(best_pairs(Ground(((),) + tuple((block,) for block in range(9))), ten), ())
        # The first pairs that fit are not the most: 0 must not be beside 1.
        self.assertEqual(most_pairs(Ground(((), (), (1,), (0,))), WHOLE), 2)

    def test_needs_by_others_count(self):
        ground = Ground(((), (0,), (1,)))
        self.assertIs(are_pairs(ground, (0, 1, 2), ((0, 2),)), False)
        self.assertEqual(most_pairs(ground, (0, 1, 2)), 0)

    def test_blocks_beside_the_pit(self):
        self.assertIs(are_pairs(GROUND, (0, 1), ((0, 1),)), True)
        self.assertIs(are_pairs(GROUND, (0,), ((0, 1),)), False)
        self.assertIs(are_pairs(GROUND, (0, 1), ((0, 3),)), False)

    def test_values_that_are_none(self):
        wrong = (((0, 1), (0, 3)), ((0, 3), (0, 1)), ((2, 3), (0, 1)), [(0, 1)], ((1, 0),), ((0, 1, 2),), ((False, 1),),
                 ((0, True),), ((0, 4),), ((-1, 0),), ((0, 1), (2, 3), ()), (0, 1), ((0, "1"),), ((0, 1), None),
                 ((0, 2),), ((1, 3),), ((1, 1),))
        for value in faults.WRONG + wrong:
            if not faults.is_one_of(value, [(), ((0, 1),)]):
                with self.subTest(str(value)[:60]):
                    self.assertIs(are_pairs(GROUND, WHOLE, value), False)

    def test_errors(self):
        for function, rest in ((most_pairs, ()), (best_pairs, ()), (are_pairs, (None,))):
            for arguments, error in (((None, (0,)), errors.BadGround), ((GROUND, (1, 0)), errors.BadLot),
                                     ((GROUND, [0]), errors.BadLot), ((GROUND, (True,)), errors.BadLot),
                                     ((GROUND, (2,)), errors.NotPit)):
                self.assertRaises(error, function, *arguments, *rest)


if __name__ == "__main__":
    unittest.main()
