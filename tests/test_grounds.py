"""Point 2: grounds, what blocks need, levels and other orders."""

import itertools
import unittest

from pitlots import errors
from pitlots.grounds import Ground, cover, levels, needers, renamed
from tests import faults, plain


class CoversTest(unittest.TestCase):
    def assert_bad(self, covers, index):
        with self.subTest(covers=str(covers)[:80]), self.assertRaises(errors.BadCovers) as caught:
            Ground(covers)
        self.assertEqual((caught.exception.index, type(caught.exception.index)), (index, type(index)))

    def test_covers_and_length(self):
        for covers in plain.GREAT:
            self.assertEqual((Ground(covers).covers, len(Ground(covers))), (covers, len(covers)))

    def test_from_1_to_10_things(self):
        for many in range(1, 11):
            self.assertEqual(len(Ground(((),) * many)), many)
        self.assert_bad((), None)
        self.assert_bad(((),) * 11, None)
        self.assert_bad((5,) * 11, None)

    def test_no_tuple_of_things(self):
        for covers in faults.WRONG:
            if not isinstance(covers, tuple):
                self.assert_bad(covers, None)

    def test_tuples_of_any_values(self):
        for covers in faults.WRONG:
            if isinstance(covers, tuple) and 1 <= len(covers) <= 10:
                wrong = [block for block, firsts in enumerate(covers) if not faults.is_lot(((),) * block, firsts)]
                if wrong:
                    self.assert_bad(covers, wrong[0])
                else:
                    self.assertEqual(Ground(covers).covers, covers)

    def test_first_wrong_thing(self):
        wrong = (None, True, 0, "", "0", [], {}, [0], {0: 0}, (2,), (3,), (-1,), (1, 0), (0, 0), (0, 1, 1), (True,),
                 (False,), (0, True), ("0",), (None,), ((0,),), ([],), (0, 10 ** 400), (0, 1, 2))
        for thing in wrong:
            self.assert_bad(((), (0,), thing), 2)
            self.assert_bad(((), (0,), thing, 7), 2)
            self.assert_bad((thing,), 0)

    def test_needs_are_of_lesser_numbers(self):
        self.assert_bad(((0,),), 0)
        self.assert_bad(((), (1,)), 1)
        self.assert_bad(((1,), ()), 0)
        self.assert_bad(((), (0,), (0, 2)), 2)
        self.assert_bad(((),) * 9 + ((9,),), 9)
        self.assertEqual(Ground(((),) * 9 + ((8,),)).covers[9], (8,))

    def test_any_lot_of_lesser_blocks_fits(self):
        for block in range(5):
            for firsts in plain.all_lots(((),) * block):
                covers = ((),) * block + (firsts,)
                self.assertEqual(Ground(covers).covers, covers)
                for row in itertools.permutations(firsts):
                    if row != firsts:
                        self.assert_bad(((),) * block + (row,), block)

    def test_equal_if_covers_are(self):
        for one, other in itertools.product(plain.SMALL, repeat=2):
            self.assertIs(Ground(one) == Ground(other), one == other)
            self.assertIs(Ground(one) != Ground(other), one != other)

    def test_equal_to_nothing_of_another_kind(self):
        class Other:
            covers = ((),)
        for value in faults.WRONG + (((),), Other()):
            self.assertIs(Ground(((),)) == value, False)
            self.assertIs(value == Ground(((),)), False)
            self.assertIs(Ground(((),)) != value, True)


class NeedsTest(unittest.TestCase):
    def test_cover_and_needers(self):
        for covers in plain.GREAT:
            ground, blocks = Ground(covers), range(len(covers))
            needs = [plain.needed(covers, block) for block in blocks]
            for block in blocks:
                self.assertEqual(cover(ground, block), tuple(sorted(needs[block])))
                self.assertEqual(needers(ground, block), tuple([one for one in blocks if block in needs[one]]))

    def test_levels(self):
        for covers in plain.MIDDLE:
            longest = [max(len(row) for row in plain.chains_from(covers, block)) - 1 for block in range(len(covers))]
            self.assertEqual(levels(Ground(covers)), tuple(longest))

    def test_levels_of_great_grounds(self):
        self.assertEqual(levels(Ground(plain.GREAT_SHAPES["long chain"])), tuple(range(10)))
        self.assertEqual(levels(Ground(plain.GREAT_SHAPES["ten free"])), (0,) * 10)
        self.assertEqual(levels(Ground(plain.GREAT_SHAPES["pyramid"])), (0, 0, 0, 0, 1, 1, 1, 2, 2, 3))


class RenamedTest(unittest.TestCase):
    def test_all_orders(self):
        for covers in plain.SMALL:
            ground, blocks = Ground(covers), tuple(range(len(covers)))
            for order in itertools.permutations(blocks):
                if not plain.is_row(covers, order):
                    with self.assertRaises(errors.BadOrder):
                        renamed(ground, order)
                    continue
                other = renamed(ground, order)
                for block in blocks:
                    self.assertEqual({order[first] for first in other.covers[block]}, set(covers[order[block]]))
            self.assertEqual(renamed(ground, blocks), ground)

    def test_there_and_back(self):
        ground = Ground(((), (), (0, 1), (1,)))
        other = renamed(ground, (1, 3, 0, 2))
        self.assertEqual(renamed(other, (2, 0, 3, 1)), ground)

    def test_wrong_orders(self):
        ground = Ground(((), (), (0, 1)))
        for order in ((0, 1), (0, 1, 2, 2), (0, 0, 2), (0, 1, True), (False, 1, 2), [0, 1, 2], (0, 1, 3), (-1, 0, 1),
                      (0, 1, "2"), (0, 1, (2,)), (0, 1, 10 ** 400), (2, 0, 1), (0, 2, 1), (0, 1, 2, 3), {}):
            with self.subTest(order=str(order)[:40]), self.assertRaises(errors.BadOrder):
                renamed(ground, order)

    def test_great_grounds(self):
        ground = Ground(plain.GREAT_SHAPES["ten free"])
        self.assertEqual(renamed(ground, tuple(range(9, -1, -1))), ground)
        with self.assertRaises(errors.BadOrder):
            renamed(Ground(plain.GREAT_SHAPES["long chain"]), (1, 0) + tuple(range(2, 10)))


if __name__ == "__main__":
    unittest.main()
