"""Point 4: lots and pits."""

import itertools
import unittest

from pitlots import errors
from pitlots.grounds import Ground
from pitlots.pits import all_pits, greatest_pit, is_pit, last_blocks, least_pit, next_blocks
from tests import plain


class PitsTest(unittest.TestCase):
    def test_is_pit_of_all_lots(self):
        for covers in plain.MIDDLE:
            for lot in plain.all_lots(covers):
                self.assertIs(is_pit(Ground(covers), lot), plain.is_closed(covers, lot))

    def test_all_pits_in_order(self):
        for covers in plain.GREAT:
            self.assertEqual(all_pits(Ground(covers)), plain.pits_of(covers))

    def test_all_pits_of_ten_blocks(self):
        pits = all_pits(Ground(plain.GREAT_SHAPES["ten free"]))
        self.assertEqual(pits, plain.all_lots(plain.GREAT_SHAPES["ten free"]))
        self.assertEqual(all_pits(Ground(plain.GREAT_SHAPES["long chain"])),
                         [tuple(range(many)) for many in range(11)])

    def test_least_and_greatest_pit(self):
        for covers in plain.SMALL:
            ground, pits = Ground(covers), plain.pits_of(covers)
            for lot in plain.all_lots(covers):
                having = [pit for pit in pits if set(lot) <= set(pit)]
                lacking = [pit for pit in pits if not set(lot) & set(pit)]
                self.assertEqual(least_pit(ground, lot), min(having, key=len))
                self.assertEqual(greatest_pit(ground, lot), max(lacking, key=len))

    def test_empty_lot(self):
        for covers in plain.GREAT:
            ground, whole = Ground(covers), tuple(range(len(covers)))
            self.assertIs(is_pit(ground, ()), True)
            self.assertEqual((least_pit(ground, ()), greatest_pit(ground, ())), ((), whole))
            self.assertEqual(next_blocks(ground, ()), [block for block in whole if not covers[block]])
            self.assertEqual((last_blocks(ground, ()), next_blocks(ground, whole)), ([], []))

    def test_next_and_last_blocks(self):
        for covers in plain.MIDDLE:
            ground, pits = Ground(covers), plain.pits_of(covers)
            known = set(pits)
            for pit in pits:
                more = [block for block in range(len(covers))
                        if block not in pit and tuple(sorted(pit + (block,))) in known]
                less = [block for block in pit if tuple(other for other in pit if other != block) in known]
                self.assertEqual((next_blocks(ground, pit), last_blocks(ground, pit)), (more, less))

    def test_common_and_together_are_pits(self):
        for covers in plain.SMALL:
            ground = Ground(covers)
            for one, other in itertools.combinations(all_pits(ground), 2):
                self.assertIs(is_pit(ground, plain.common([one, other])), True)
                self.assertIs(is_pit(ground, plain.together([one, other])), True)

    def test_wrong_lots(self):
        ground = Ground(((), (), (0, 1), (1,)))
        for function in (is_pit, least_pit, greatest_pit, next_blocks, last_blocks):
            for lot in ((1, 0), (0, 0), (0, 4), (-1, 0), (True,), (0, True), [0], "0", None, {}, (0, "1"), ((0,),)):
                with self.subTest(function.__name__, lot=lot), self.assertRaises(errors.BadLot):
                    function(ground, lot)

    def test_lots_that_are_no_pits(self):
        for covers in plain.SMALL:
            ground = Ground(covers)
            for lot in plain.all_lots(covers):
                if not plain.is_closed(covers, lot):
                    for function in (next_blocks, last_blocks):
                        with self.assertRaises(errors.NotPit):
                            function(ground, lot)


if __name__ == "__main__":
    unittest.main()
