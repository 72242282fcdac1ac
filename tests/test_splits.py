"""Points 47 and 48: splits of the gain, and those that hold."""

import itertools
import unittest
from random import Random

from pitlots import errors
from pitlots.grounds import Ground
from pitlots.leases import gain_of
from pitlots.splits import all_splits, blocker, by_order, greatest_share, holds_for, least_share
from tests import plain

GROUND, WORTHS, OWNERS = Ground(((), (), (0, 1), (1,))), (-2, -3, 8, 4), (0, 0, 1, 2)
ALL = (0, 1, 2, 3)


def against(gains, split):
    """All parties whose gain is above their shares together, the smaller first."""
    return [party for party in plain.PARTIES if gains[party] > sum(split[owner] for owner in party)]


def cases(seed, shapes, widest):
    dice = Random(seed)
    for covers in shapes:
        # What others need costs something, mostly: so owners have more together than alone.
        worths = tuple(dice.randint(0, 2 * widest) if needs else dice.randint(-widest, 1) for needs in covers)
        owners = plain.some_owners(dice, len(covers))
        gains = {party: plain.gain(covers, worths, owners, party) for party in plain.PARTIES}
        yield covers, worths, owners, gains


def splits_near(gains):
    """All splits with no share much below 0."""
    whole = gains[ALL]
    for shares in itertools.product(range(-2, whole + 3), repeat=3):
        yield shares + (whole - sum(shares),)


class SplitsTest(unittest.TestCase):
    def test_by_all_splits(self):
        many, seen = [], {None: 0, 1: 0, 2: 0, 3: 0}
        for covers, worths, owners, gains in cases(47, plain.MIDDLE + plain.MIDDLE[::-1], 3):
            if gains[ALL] > 10:
                continue
            ground, holding = Ground(covers), []
            for split in splits_near(gains):
                wrong = against(gains, split)
                if not wrong:
                    holding.append(split)
                if (split[0] + 3 * split[1] + 5 * split[2]) % 11 == 0 or len(wrong) < 3:
                    told = blocker(ground, worths, owners, split)
                    self.assertEqual(told, wrong[0] if wrong else None)
                    self.assertIs(holds_for(ground, worths, owners, split), not wrong)
                    seen[told and len(told)] += 1
            with self.subTest(covers=covers, worths=worths, owners=owners):
                self.assertEqual(all_splits(ground, worths, owners), sorted(holding))
                for owner in range(4):
                    shares = [split[owner] for split in holding]
                    self.assertEqual(least_share(ground, worths, owners, owner), min(shares))
                    self.assertEqual(greatest_share(ground, worths, owners, owner), max(shares))
            many.append(len(holding))
        self.assertTrue(max(many) > 30 and many.count(1) < len(many) - 15, many)
        self.assertTrue(min(seen.values()) > 15, seen)

    def test_by_order(self):
        for covers, worths, owners, gains in cases(48, plain.MIDDLE, 9):
            ground = Ground(covers)
            for turns in itertools.permutations(range(4)):
                split, told = by_order(ground, worths, owners, turns), [None] * 4
                for place, owner in enumerate(turns):
                    told[owner] = gains[tuple(sorted(turns[:place + 1]))] - gains[tuple(sorted(turns[:place]))]
                self.assertEqual(split, tuple(told))
                self.assertIs(holds_for(ground, worths, owners, split), True)
                self.assertEqual(least_share(ground, worths, owners, turns[0]), split[turns[0]])
                self.assertEqual(greatest_share(ground, worths, owners, turns[3]), split[turns[3]])

    def test_all_splits_lie_between_the_least_and_the_greatest_shares(self):
        for covers, worths, owners, gains in cases(481, plain.MIDDLE, 4):
            ground = Ground(covers)
            try:
                splits = all_splits(ground, worths, owners)
            except errors.TooMany:
                continue
            self.assertEqual(splits, sorted(set(splits)))
            self.assertTrue(all(not against(gains, split) and sum(split) == gains[ALL] for split in splits))
            for owner in range(4):
                shares = [split[owner] for split in splits]
                self.assertEqual(sorted(set(shares)), list(range(least_share(ground, worths, owners, owner),
                                                                 greatest_share(ground, worths, owners, owner) + 1)))

    def test_owners_without_blocks(self):
        self.assertEqual(all_splits(GROUND, WORTHS, (2,) * 4), [(0, 0, 7, 0)])
        for owner, share in ((0, 0), (1, 0), (2, 7), (3, 0)):
            self.assertEqual(least_share(GROUND, WORTHS, (2,) * 4, owner), share)
            self.assertEqual(greatest_share(GROUND, WORTHS, (2,) * 4, owner), share)
        self.assertEqual(by_order(GROUND, WORTHS, (2,) * 4, (3, 2, 1, 0)), (0, 0, 7, 0))

    def test_the_smaller_blocker_then_the_least(self):
        # The gains: owners 0 and 1 have 3 together, 0 and 2 have 1, all three of them have 7.
        for split, told in (((0, 2, 5, 0), (0, 1)), ((0, 3, 4, 0), None), ((-1, 4, 4, 0), (0,)), ((-1, 9, 0, -1), (0,)),
                            ((8, 0, 0, -1), (3,)), ((0, 7, 0, 0), (0, 2)), ((0, 4, 3, 0), None), ((1, 1, 6, -1), (3,)),
                            ((9, -1, -1, 0), (1,)), ((1, 1, 5, 0), (0, 1)), ((2, 0, 5, 0), (0, 1))):
            self.assertEqual(blocker(GROUND, WORTHS, OWNERS, split), told, split)
            self.assertIs(holds_for(GROUND, WORTHS, OWNERS, split), told is None)
        for party, gain in (((0, 1), 3), ((0, 2), 1), ((1, 2), 0), (ALL, 7)):
            self.assertEqual(gain_of(GROUND, WORTHS, OWNERS, party), gain)

    def test_a_blocker_of_three(self):
        # Three owners alone have something together, whoever of them is left out.
        ground, worths, owners = Ground(((), (0,), (1,), ())), (0, 0, 6, 0), (0, 1, 2, 3)
        self.assertEqual(blocker(ground, worths, owners, (2, 2, 1, 1)), (0, 1, 2))
        self.assertIsNone(blocker(ground, worths, owners, (2, 2, 2, 0)))

    def test_the_greatest_shares(self):
        for split, told in (((1000, -993, 0, 0), (1,)), ((-1000, 1000, 7, 0), (0,)), ((-1000, 7, 1000, 0), (0,)),
                            ((7, 0, 1000, -1000), (3,))):
            self.assertEqual(blocker(GROUND, WORTHS, OWNERS, split), told)
        for split in ((1001, -994, 0, 0), (-1001, 1000, 8, 0), (0, 0, 1008, -1001)):
            self.assertRaises(errors.BadSplit, blocker, GROUND, WORTHS, OWNERS, split)

    def test_splits_of_another_sum(self):
        for split in ((0, 3, 4, 1), (0, 3, 3, 0), (0, 0, 0, 0), (1000,) * 4, (7, 7, 7, 7), (-1000,) * 4, (-7, 0, 0, 0)):
            self.assertRaises(errors.NotWhole, holds_for, GROUND, WORTHS, OWNERS, split)
            self.assertRaises(errors.NotWhole, blocker, GROUND, WORTHS, OWNERS, split)
        self.assertIs(holds_for(GROUND, (-1,) * 4, OWNERS, (0, 0, 0, 0)), True)

    def test_2000_and_2001_splits(self):
        # Two owners share 39 as they like, the two others 49: that is 40 times 50 splits.
        ground = Ground(((), (0,), (), (2,), ()))
        for first, second, many in ((39, 49, 2000), (49, 39, 2000), (0, 49, 50)):
            splits = all_splits(ground, (0, first, 0, second, 0), (0, 1, 2, 3, 3))
            self.assertEqual(len(splits), many)
            self.assertEqual((splits[0], splits[-1]), ((0, first, 0, second), (first, 0, second, 0)))
        # 68 and 28 give 69 times 29 splits.
        twice = Ground(((), (0,), (0,), (), (3,)))
        for worths, owners in (((0, 50, 18, 0, 28), (0, 1, 1, 2, 3)), ((0, 50, 18, 0, 28), (3, 1, 1, 2, 0))):
            with self.assertRaises(errors.TooMany) as caught:
                all_splits(twice, worths, owners)
            self.assertEqual(vars(caught.exception), {"most": 2000})
        self.assertEqual(len(all_splits(twice, (0, 50, 18, 0, 27), (0, 1, 1, 2, 3))), 69 * 28)
        # Three owners without anything alone, or by two, share 61 or 62 in 1953 or 2016 ways.
        three = Ground(((), (0,), (1,), (1,)))
        self.assertEqual(len(all_splits(three, (0, 0, 50, 11), (0, 1, 2, 2))), 62 * 63 // 2)
        self.assertRaises(errors.TooMany, all_splits, three, (0, 0, 50, 12), (0, 1, 2, 2))

    def test_very_many_splits(self):
        ground = Ground(((), (), ()) + ((0, 1, 2),) * 7)
        self.assertRaises(errors.TooMany, all_splits, ground, (0,) * 3 + (50,) * 7, (0, 1, 2) + (3,) * 7)
        self.assertEqual(greatest_share(ground, (0,) * 3 + (50,) * 7, (0, 1, 2) + (3,) * 7, 0), 350)

    def test_wrong_splits(self):
        for split in (None, 7, "7000", (), (7, 0, 0), (7, 0, 0, 0, 0), [0, 3, 4, 0], (0, 3, 4, True), (0, 3, 4, False),
                      (0, 3, 4, None), (0, 3, 4, "0"), ((0, 1), (3, 1), (4, 1), (0, 1)), {0: 7}, True, (0, 3, 2000, 0)):
            for function in (holds_for, blocker):
                self.assertRaises(errors.BadSplit, function, GROUND, WORTHS, OWNERS, split)
                self.assertRaises(errors.BadOwners, function, GROUND, WORTHS, (0, 0, 1, 4), split)
                self.assertRaises(errors.BadWorths, function, GROUND, (-2, -3, 8, 51), None, split)
                self.assertRaises(errors.BadGround, function, None, None, None, split)

    def test_wrong_turns(self):
        for turns in (None, 0, "0123", (), (0, 1, 2), (0, 1, 2, 2), (0, 1, 2, 4), (-1, 0, 1, 2), (0, 1, 2, 3, 3),
                      [0, 1, 2, 3], (0, True, 2, 3), (False, 1, 2, 3), (0, 1, 2, None), (0, 1, 2, "3"), {},
                      (3, 3, 3, 3)):
            self.assertRaises(errors.BadOwnerRow, by_order, GROUND, WORTHS, OWNERS, turns)
            self.assertRaises(errors.BadOwners, by_order, GROUND, WORTHS, (0,), turns)

    def test_wrong_owners(self):
        for owner in (None, -1, 4, True, False, "0", (0,), [], {}):
            for function in (least_share, greatest_share):
                self.assertRaises(errors.BadOwner, function, GROUND, WORTHS, OWNERS, owner)
                self.assertRaises(errors.BadOwners, function, GROUND, WORTHS, [0, 0, 1, 2], owner)
                self.assertRaises(errors.BadWorths, function, GROUND, [-2, -3, 8, 4], OWNERS, owner)
        for owners in (None, (0, 0, 1, True), (0, 0, 1, 5), (0, 0, 1), [0, 0, 1, 2]):
            self.assertRaises(errors.BadOwners, all_splits, GROUND, WORTHS, owners)
            self.assertRaises(errors.BadWorths, all_splits, GROUND, None, owners)
            self.assertRaises(errors.BadGround, all_splits, (), None, owners)


if __name__ == "__main__":
    unittest.main()
