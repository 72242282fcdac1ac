"""Points 51 and 52: grounds that are parted, blocks that are drawn together, grounds that are alike."""

import itertools
import unittest
from random import Random

from pitlots import errors
from pitlots.drawings import alike, drawn, drawn_to, parted, pits_with
from pitlots.grounds import Ground, renamed
from pitlots.pits import all_pits
from tests import plain

GROUND = Ground(((), (), (0, 1), (1,)))
CHAIN = Ground(((), (0,), (1,), (2,)))


def stands_between(covers, lot):
    """Whether a block beside a lot needs one of it and is needed by one of it."""
    return any(plain.needed(covers, block) & set(lot) and any(block in plain.needed(covers, other) for other in lot)
               for block in range(len(covers)) if block not in lot)


def drawn_plainly(covers, lot):
    """What is needed first, by names: the drawn block has that of the least of the lot."""
    name = {block: lot[0] if block in lot else block for block in range(len(covers))}
    firsts = {block: set() for block in sorted(set(name.values()))}
    for block, needs in enumerate(covers):
        firsts[name[block]] |= {name[first] for first in needs} - {name[block]}
    order = plain.first_of(firsts)
    return plain.covers_in(firsts, order), tuple(order.index(name[block]) for block in range(len(covers)))


class PartedTest(unittest.TestCase):
    def test_by_all_pits(self):
        for covers in plain.SMALL:
            ground, every = Ground(covers), plain.pits_of(covers)
            for pit in every[1:-1]:
                rest = [block for block in range(len(covers)) if block not in pit]
                first, second = parted(ground, pit)
                with self.subTest(covers=covers, pit=pit):
                    self.assertIsInstance(first, Ground)
                    self.assertIsInstance(second, Ground)
                    for part, blocks in ((first, list(pit)), (second, rest)):
                        self.assertEqual(part.covers, tuple(tuple(blocks.index(other) for other in covers[block]
                                                                  if other in blocks) for block in blocks))
                    # Its pits are those that lie in the pit, and what is beside it of those in which it lies.
                    self.assertEqual([tuple(pit[block] for block in some) for some in all_pits(first)],
                                     [some for some in every if set(some) <= set(pit)])
                    self.assertEqual([tuple(rest[block] for block in some) for some in all_pits(second)],
                                     [tuple(block for block in some if block in rest) for some in every
                                      if set(pit) <= set(some)])

    def test_nothing_and_all(self):
        for covers in plain.MIDDLE:
            for pit in ((), tuple(range(len(covers)))):
                self.assertRaises(errors.EmptyLot, parted, Ground(covers), pit)
        self.assertEqual([part.covers for part in parted(Ground(((), ())), (1,))], [((),), ((),)])

    def test_wrong_pits(self):
        for pit, error in ((None, errors.BadLot), ([0], errors.BadLot), ((1, 0), errors.BadLot), ((4,), errors.BadLot),
                           ((True,), errors.BadLot), ((0, 0), errors.BadLot), ("0", errors.BadLot), (0, errors.BadLot),
                           ((2,), errors.NotPit), ((0, 3), errors.NotPit), ((), errors.EmptyLot)):
            self.assertRaises(error, parted, GROUND, pit)
            self.assertRaises(errors.BadGround, parted, None, pit)


class DrawnTest(unittest.TestCase):
    def test_by_all_lots(self):
        seen = {True: 0, False: 0}
        for covers in plain.SMALL + plain.some_covers(51, 6, 7):
            ground = Ground(covers)
            for lot in plain.all_lots(covers)[1:]:
                between = stands_between(covers, lot)
                seen[between] += 1
                with self.subTest(covers=covers, lot=lot):
                    if between:
                        for function in (drawn, drawn_to, pits_with):
                            self.assertRaises(errors.NotTogether, function, ground, lot)
                        continue
                    told, names = drawn_plainly(covers, lot)
                    self.assertEqual(drawn(ground, lot).covers, told)
                    self.assertIsInstance(drawn(ground, lot), Ground)
                    self.assertEqual(drawn_to(ground, lot), names)
                    pits = [pit for pit in plain.pits_of(covers) if set(lot) <= set(pit) or not set(lot) & set(pit)]
                    self.assertEqual(pits_with(ground, lot), pits)
                    # Just these become pits of the drawn ground, each of them one.
                    became = [tuple(sorted({names[block] for block in pit})) for pit in pits]
                    self.assertEqual(sorted(became), sorted(plain.pits_of(told)))
        self.assertTrue(min(seen.values()) > 100, seen)

    def test_one_block_and_all(self):
        for covers in plain.MIDDLE:
            ground, whole = Ground(covers), tuple(range(len(covers)))
            for block in whole:
                self.assertEqual(drawn(ground, (block,)), ground)
                self.assertEqual(drawn_to(ground, (block,)), whole)
                self.assertEqual(pits_with(ground, (block,)), plain.pits_of(covers))
            self.assertEqual(drawn(ground, whole), Ground(((),)))
            self.assertEqual(drawn_to(ground, whole), (0,) * len(covers))
            self.assertEqual(pits_with(ground, whole), [(), whole])

    def test_a_block_between(self):
        for lot in ((0, 2), (0, 3), (1, 3), (0, 1, 3), (0, 2, 3)):
            for function in (drawn, drawn_to, pits_with):
                self.assertRaises(errors.NotTogether, function, CHAIN, lot)
        self.assertEqual(drawn(CHAIN, (1, 2)).covers, ((), (0,), (1,)))
        # Between two blocks that need each other by more than one way.
        self.assertRaises(errors.NotTogether, drawn, Ground(((), (0,), (0, 1))), (0, 2))
        # Beside a block that is needed, and one that needs, there may be others.
        self.assertEqual(drawn(Ground(((), (0,), (1,), ())), (1, 3)).covers, ((), (0,), (1,)))
        self.assertEqual(drawn_to(Ground(((), (0,), (1,), ())), (1, 3)), (0, 1, 2, 1))

    def test_order(self):
        # The one block counts as the least of its lot, but comes behind all that it needs.
        self.assertEqual(drawn_to(Ground(((), (), (1,), ())), (0, 2)), (1, 0, 1, 2))
        self.assertEqual(drawn_to(Ground(((), (), (), (2,))), (1, 3)), (0, 2, 1, 2))
        self.assertEqual(drawn_to(Ground(((), (), (), (2,), ())), (0, 3)), (2, 0, 1, 2, 3))
        self.assertEqual(drawn(Ground(((), (), (), (2,), (0,))), (0, 3)).covers, ((), (), (1,), (2,)))

    def test_wrong_lots(self):
        for function in (drawn, drawn_to, pits_with):
            for lot in (None, 0, True, "", [], [0], (1, 0), (0, 0), (4,), (-1,), (False,), (None,), ("0",), {0: 0}):
                self.assertRaises(errors.BadLot, function, GROUND, lot)
                self.assertRaises(errors.BadGround, function, (), lot)
            self.assertRaises(errors.EmptyLot, function, GROUND, ())
            self.assertRaises(errors.BadGround, function, None, ())


class AlikeTest(unittest.TestCase):
    def test_by_all_orders(self):
        dice, seen = Random(52), {"none": 0, "one": 0, "several": 0}
        shapes = [covers for covers in plain.SMALL if len(covers) <= 5] + plain.some_covers(521, 30, 4)
        for covers in shapes:
            orders = plain.rows_of(covers, tuple(range(len(covers))))
            others = [renamed(Ground(covers), dice.choice(orders)).covers for _ in range(3)]
            others += [dice.choice(shapes) for _ in range(4)]
            for other in others:
                found = [order for order in orders if renamed(Ground(covers), order).covers == other]
                with self.subTest(one=covers, other=other):
                    self.assertEqual(alike(Ground(covers), Ground(other)), found[0] if found else None)
                seen["none" if not found else "one" if len(found) == 1 else "several"] += 1
        self.assertTrue(min(seen.values()) > 20, seen)

    def test_by_all_small_grounds(self):
        grounds = [covers for many in (1, 2, 3) for covers in itertools.product(
            *[[lot for lot in plain.all_lots(((),) * block)] for block in range(many)])]
        self.assertEqual(len(grounds), 1 + 2 + 8)
        for one, other in itertools.product(grounds, grounds):
            orders = plain.rows_of(one, tuple(range(len(one))))
            found = [order for order in orders if renamed(Ground(one), order).covers == other]
            self.assertEqual(alike(Ground(one), Ground(other)), found[0] if found else None)

    def test_itself(self):
        for covers in plain.GREAT:
            self.assertEqual(alike(Ground(covers), Ground(covers)), tuple(range(len(covers))))

    def test_one_and_ten_blocks(self):
        self.assertEqual(alike(Ground(((),)), Ground(((),))), (0,))
        self.assertEqual(alike(Ground(((),) * 10), Ground(((),) * 10)), tuple(range(10)))
        self.assertIsNone(alike(Ground(((),)), Ground(((), ()))))
        self.assertIsNone(alike(Ground(((),) * 10), Ground(((),) * 9 + ((8,),))))
        first = Ground(((),) * 9 + ((3,),))
        self.assertEqual(alike(first, Ground(((),) * 9 + ((8,),))), (0, 1, 2, 4, 5, 6, 7, 8, 3, 9))
        self.assertEqual(alike(first, Ground(((), (0,)) + ((),) * 8)), (3, 9, 0, 1, 2, 4, 5, 6, 7, 8))
        self.assertIsNone(alike(first, Ground(((),) * 8 + ((7,), (7,)))))

    def test_ten_blocks_renamed(self):
        dice = Random(53)
        for covers in [covers for covers in plain.GREAT if len(covers) == 10] + plain.some_covers(531, 20, 10):
            order, dug = [], set()
            while len(order) < len(covers):
                free = [block for block in range(len(covers)) if block not in dug and set(covers[block]) <= dug]
                order.append(dice.choice(free))
                dug.add(order[-1])
            other = renamed(Ground(covers), tuple(order))
            found = alike(Ground(covers), other)
            self.assertEqual(renamed(Ground(covers), found), other)
            self.assertTrue(found <= tuple(order))

    def test_rings_of_shares(self):
        # Five blocks of which each is needed first by two of five others: one great ring, or two of them.
        one = Ground(((),) * 5 + ((0, 1), (1, 2), (2, 3), (3, 4), (0, 4)))
        other = Ground(((),) * 5 + ((0, 1), (0, 1), (2, 3), (3, 4), (2, 4)))
        self.assertIsNone(alike(one, other))
        self.assertIsNone(alike(other, one))
        self.assertEqual(alike(other, Ground(((),) * 5 + ((0, 1), (1, 2), (0, 2), (3, 4), (3, 4)))),
                         (2, 3, 4, 0, 1, 7, 8, 9, 5, 6))

    def test_needs_by_way_of_others_are_no_needs_first(self):
        self.assertIsNone(alike(Ground(((), (0,), (1,))), Ground(((), (0,), (0, 1)))))
        self.assertIsNone(alike(Ground(((), (0,), (0, 1))), Ground(((), (0,), (1,)))))

    def test_wrong_grounds(self):
        for wrong in (None, ((), ()), 1, True, [], "", {}):
            self.assertRaises(errors.BadGround, alike, wrong, GROUND)
            self.assertRaises(errors.BadGround, alike, GROUND, wrong)
            self.assertRaises(errors.BadGround, alike, wrong, wrong)


if __name__ == "__main__":
    unittest.main()
