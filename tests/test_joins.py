"""Points 49 and 50: joins of grounds that share blocks."""

import itertools
import unittest
from random import Random

from pitlots import errors
from pitlots.grounds import Ground
from pitlots.joins import agreeing_pits, best_pair, join_worth, joined, places
from pitlots.pits import all_pits
from pitlots.worths import best_worth, greatest_best, least_best
from tests import plain

ONE, OTHER = Ground(((), (0,))), Ground(((), (), (0, 1)))
FIVE, SIX, TEN = Ground(((),) * 5), Ground(((),) * 6), Ground(((),) * 10)


def some_shared(dice, one, other):
    many = dice.randint(0, min(len(one), len(other)))
    twins = dice.sample(range(len(other)), many)
    if dice.randint(0, 1):
        # Rings are rarer so.
        twins = sorted(twins)
    return tuple(zip(sorted(dice.sample(range(len(one)), many)), twins))


def cases():
    dice = Random(49)
    for covers in plain.SMALL * 10:
        other = dice.choice(plain.SMALL)
        shared = some_shared(dice, covers, other)
        if len(covers) + len(other) - len(shared) <= 10:
            yield covers, other, shared


def agreeing(one, other, shared):
    """All pairs of pits that agree, in whatever order."""
    return [(pit, more) for pit in plain.pits_of(one) for more in plain.pits_of(other)
            if all((block in pit) == (twin in more) for block, twin in shared)]


def as_join(pair, ones, others):
    """The pit of the join that a pair of pits is."""
    return tuple(sorted({ones[block] for block in pair[0]} | {others[block] for block in pair[1]}))


class JoinsTest(unittest.TestCase):
    def test_by_names(self):
        seen = {"ring": 0, "none": 0, "some": 0, "all": 0}
        for covers, more, shared in cases():
            one, other, told = Ground(covers), Ground(more), plain.join(covers, more, shared)
            with self.subTest(one=covers, other=more, shared=shared):
                if told is None:
                    for function in (joined, places, agreeing_pits):
                        self.assertRaises(errors.BadJoin, function, one, other, shared)
                    seen["ring"] += 1
                    continue
                order, firsts = told
                ground = joined(one, other, shared)
                self.assertIsInstance(ground, Ground)
                self.assertEqual(ground.covers, plain.covers_in(firsts, order))
                twins = {twin: block for block, twin in shared}
                self.assertEqual(places(one, other, shared), (
                    tuple(order.index(("one", block)) for block in range(len(covers))),
                    tuple(order.index(("one", twins[block]) if block in twins else ("other", block))
                          for block in range(len(more)))))
            seen["none" if not shared else "all" if len(shared) == len(covers) == len(more) else "some"] += 1
        self.assertTrue(min(seen.values()) > 3, seen)

    def test_order_is_the_least_of_all(self):
        # The order that is told step by step is the least of all orders that could be.
        for covers, more, shared in cases():
            told = plain.join(covers, more, shared)
            if told and len(told[0]) <= 6:
                order, firsts = told
                names = list(firsts)
                orders = [row for row in itertools.permutations(range(len(names)))
                          if all(firsts[names[node]] <= {names[ahead] for ahead in row[:place]}
                                 for place, node in enumerate(row))]
                self.assertEqual([names[node] for node in min(orders)], order)

    def test_agreeing_pits(self):
        for covers, more, shared in cases():
            if plain.join(covers, more, shared):
                one, other = Ground(covers), Ground(more)
                ones, others = places(one, other, shared)
                pairs = agreeing(covers, more, shared)
                pairs = sorted(pairs, key=lambda pair: (len(as_join(pair, ones, others)), as_join(pair, ones, others)))
                with self.subTest(one=covers, other=more, shared=shared):
                    self.assertEqual(agreeing_pits(one, other, shared), pairs)
                    # These are just the pits of the join.
                    self.assertEqual([as_join(pair, ones, others) for pair in pairs],
                                     all_pits(joined(one, other, shared)))

    def test_worths(self):
        dice, ties = Random(50), 0
        for covers, more, shared in cases():
            if plain.join(covers, more, shared):
                one, other = Ground(covers), Ground(more)
                worths, others = plain.some_worths(dice, len(covers)), plain.some_worths(dice, len(more))
                pairs = agreeing(covers, more, shared)
                sums = [plain.worth(worths, pit) + plain.worth(others, pair) for pit, pair in pairs]
                best = [pair for pair, worth in zip(pairs, sums) if worth == max(sums)]
                least = plain.common([pit for pit, _ in best]), plain.common([pit for _, pit in best])
                with self.subTest(one=covers, other=more, shared=shared, worths=worths, more=others):
                    self.assertIn(least, best)
                    self.assertEqual(join_worth(one, other, shared, worths, others), max(sums))
                    self.assertEqual(best_pair(one, other, shared, worths, others), least)
                ties += len(best) > 1
        self.assertTrue(ties > 10, ties)

    def test_no_shared_block(self):
        self.assertEqual(joined(ONE, OTHER, ()).covers, ((), (0,), (), (), (2, 3)))
        self.assertEqual(places(ONE, OTHER, ()), ((0, 1), (2, 3, 4)))
        self.assertEqual(joined(OTHER, ONE, ()).covers, ((), (), (0, 1), (), (3,)))
        worths, more = (-2, 5), (-1, -1, 3)
        self.assertEqual(join_worth(ONE, OTHER, (), worths, more), best_worth(ONE, worths) + best_worth(OTHER, more))
        self.assertEqual(best_pair(ONE, OTHER, (), worths, more), (least_best(ONE, worths), least_best(OTHER, more)))
        self.assertEqual(len(agreeing_pits(ONE, OTHER, ())), 3 * 5)

    def test_all_shared(self):
        for covers in plain.MIDDLE:
            ground, blocks = Ground(covers), range(len(covers))
            shared = tuple((block, block) for block in blocks)
            self.assertEqual(joined(ground, ground, shared), ground)
            self.assertEqual(places(ground, ground, shared), (tuple(blocks), tuple(blocks)))
            self.assertEqual(agreeing_pits(ground, ground, shared), [(pit, pit) for pit in plain.pits_of(covers)])
        # What just one of both grounds needs is needed in the join.
        self.assertEqual(joined(Ground(((), (), (0,))), Ground(((), (), (1,))), ((0, 0), (1, 1), (2, 2))).covers,
                         ((), (), (0, 1)))
        self.assertEqual(joined(Ground(((), (), (0,))), Ground(((), (), (1,))), ((0, 1), (1, 0), (2, 2))).covers,
                         ((), (), (0,)))

    def test_blocks_of_one_stand_ahead(self):
        # The one's block 0 is the other's block 1, so it comes behind the other's block 0, but ahead of its block 2.
        self.assertEqual(places(Ground(((),)), Ground(((), (0,), ())), ((0, 1),)), ((1,), (0, 1, 2)))
        self.assertEqual(places(Ground(((), ())), Ground(((), (0,), ())), ((0, 1),)), ((2, 0), (1, 2, 3)))
        self.assertEqual(joined(Ground(((), (0,))), Ground(((), (0,))), ((0, 1),)).covers, ((), (0,), (1,)))
        self.assertEqual(places(Ground(((), (0,))), Ground(((), (0,), (1,))), ((0, 2),)), ((2, 3), (0, 1, 2)))

    def test_ten_and_eleven_blocks(self):
        self.assertEqual(len(joined(FIVE, FIVE, ())), 10)
        self.assertEqual(len(joined(FIVE, SIX, ((0, 5),))), 10)
        self.assertEqual(places(TEN, FIVE, tuple((block, block) for block in range(5)))[1], (0, 1, 2, 3, 4))
        self.assertEqual(len(agreeing_pits(FIVE, FIVE, ())), 1024)
        for one, other, shared in ((FIVE, SIX, ()), (SIX, SIX, ((0, 5),)), (TEN, ONE, ((9, 0),)), (TEN, TEN, ())):
            for function, rest in ((joined, ()), (places, ()), (agreeing_pits, ()),
                                   (join_worth, ((0,) * len(one), (0,) * len(other))),
                                   (best_pair, ((0,) * len(one), (0,) * len(other)))):
                self.assertRaises(errors.BadJoin, function, one, other, shared, *rest)

    def test_rings(self):
        three = Ground(((), (0,), (1,)))
        for one, other, shared in ((ONE, ONE, ((0, 1), (1, 0))), (three, ONE, ((0, 1), (2, 0))),
                                   (three, three, ((0, 2), (2, 0))), (three, three, ((0, 1), (1, 0))),
                                   (three, three, ((0, 2), (1, 1), (2, 0)))):
            for function, rest in ((joined, ()), (places, ()), (agreeing_pits, ()),
                                   (join_worth, ((0,) * len(one), (0,) * len(other))),
                                   (best_pair, ((0,) * len(one), (0,) * len(other)))):
                self.assertRaises(errors.BadJoin, function, one, other, shared, *rest)
        self.assertEqual(joined(three, three, ((0, 1), (1, 2))).covers, ((), (0,), (1,), (2,)))
        # A ring of three blocks: one needs another in one ground, and the third in the other.
        self.assertRaises(errors.BadJoin, joined, Ground(((), (0,), ())), Ground(((), (0,), (1,))),
                          ((0, 2), (1, 0)))

    def test_worths_of_both_together(self):
        # A shared block is worth what it is in both grounds, beyond what one ground alone could tell.
        ground = Ground(((),))
        self.assertEqual(join_worth(ground, ground, ((0, 0),), (50,), (50,)), 100)
        self.assertEqual(join_worth(ground, ground, ((0, 0),), (-50,), (50,)), 0)
        self.assertEqual(best_pair(ground, ground, ((0, 0),), (-50,), (50,)), ((), ()))
        self.assertEqual(best_pair(ground, ground, ((0, 0),), (-49,), (50,)), ((0,), (0,)))
        self.assertEqual(best_pair(ground, ground, (), (-49,), (50,)), ((), (0,)))
        worths = (3, -4, 0, 0, 1)
        for covers in plain.SMALL:
            if len(covers) == 5:
                shared = tuple((block, block) for block in range(5))
                self.assertEqual(join_worth(Ground(covers), Ground(covers), shared, worths, worths),
                                 2 * best_worth(Ground(covers), worths))
                self.assertEqual(best_pair(Ground(covers), Ground(covers), shared, worths, worths)[0],
                                 least_best(Ground(covers), worths))
                self.assertNotEqual(greatest_best(Ground(covers), worths), None)

    def test_wrong_grounds(self):
        for wrong in (None, ((), (0,)), 2, True, [], "ground"):
            for function, rest in ((joined, (None,)), (places, (None,)), (agreeing_pits, (None,)),
                                   (join_worth, (None, None, None)), (best_pair, (None, None, None))):
                self.assertRaises(errors.BadGround, function, wrong, OTHER, *rest)
                self.assertRaises(errors.BadGround, function, ONE, wrong, *rest)
                self.assertRaises(errors.BadGround, function, wrong, wrong, *rest)

    def test_wrong_shared_blocks(self):
        for shared in (None, 0, True, "", [], [(0, 0)], (0, 0), ((0,),), ((0, 0, 0),), ([0, 0],), ((2, 0),), ((0, 3),),
                       ((-1, 0),), ((0, -1),), ((0, 0), (0, 1)), ((0, 0), (1, 0)), ((1, 0), (0, 1)), ((0, 0), (0, 0)),
                       ((False, 0),), ((0, True),), ((0, None),), (("0", 0),), ((0, 0), None), {(0, 0): 0}, ("00",)):
            for function, rest in ((joined, ()), (places, ()), (agreeing_pits, ()), (join_worth, (None, None)),
                                   (best_pair, (None, None))):
                self.assertRaises(errors.BadShared, function, ONE, OTHER, shared, *rest)
        self.assertEqual(len(joined(ONE, OTHER, ((0, 1), (1, 2)))), 3)
        # The second block of a pair is one of the other ground, of as many as that has.
        self.assertEqual(len(joined(ONE, OTHER, ((1, 2),))), 4)
        self.assertRaises(errors.BadShared, joined, OTHER, ONE, ((1, 2),))

    def test_errors_stand_in_order(self):
        for function in (join_worth, best_pair):
            ring = ((0, 1), (1, 0))
            for worths in (None, [0, 0], (0,), (0, 0, 0), (0, 51), (0, True)):
                self.assertRaises(errors.BadWorths, function, ONE, ONE, ring, worths, (0, 0))
                self.assertRaises(errors.BadWorths, function, ONE, ONE, ring, (0, 0), worths)
                self.assertRaises(errors.BadShared, function, ONE, ONE, ((0, 2),), worths, None)
            # Worths of one are asked of one, those of other of other.
            self.assertRaises(errors.BadWorths, function, ONE, OTHER, (), (0, 0, 0), (0, 0))
            self.assertRaises(errors.BadJoin, function, ONE, ONE, ring, (0, 0), (0, 0))
        self.assertEqual(join_worth(ONE, OTHER, (), (0, 0), (0, 0, 0)), 0)


if __name__ == "__main__":
    unittest.main()
