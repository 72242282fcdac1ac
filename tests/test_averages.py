"""Points 62 and 63: shares that hold, and the average over all orders of the owners."""

import itertools
import unittest
from fractions import Fraction
from random import Random

from pitlots import errors
from pitlots.averages import average_split, shares_hold
from pitlots.grounds import Ground
from pitlots.splits import all_splits, by_order, holds_for
from tests import faults, plain

GROUND, WORTHS, OWNERS = Ground(((), (), (0, 1), (1,))), (-2, -3, 8, 4), (0, 0, 1, 2)
ALL = (0, 1, 2, 3)


def cases(seed, shapes):
    dice = Random(seed)
    for covers in shapes:
        worths = tuple(dice.randint(0, 8) if needs else dice.randint(-4, 2) for needs in covers)
        yield covers, worths, plain.some_owners(dice, len(covers))


def holds(covers, worths, owners, shares):
    """Whether some Fractions are shares that hold."""
    gains = {party: plain.gain(covers, worths, owners, party) for party in plain.PARTIES}
    return sum(shares) == gains[ALL] and all(gains[party] <= sum(shares[owner] for owner in party) for party in gains)


class SharesTest(unittest.TestCase):
    def test_splits_are_shares(self):
        dice, seen = Random(62), {True: 0, False: 0}
        for covers, worths, owners in cases(621, plain.SMALL):
            ground, whole = Ground(covers), plain.gain(covers, worths, owners, ALL)
            for _ in range(20):
                split = tuple(dice.randint(-1, whole + 1) for _ in range(3))
                split = split + (whole - sum(split),)
                if dice.randint(0, 1):
                    split = by_order(ground, worths, owners, tuple(dice.sample(range(4), 4)))
                answer = holds_for(ground, worths, owners, split)
                self.assertIs(shares_hold(ground, worths, owners, tuple((share, 1) for share in split)), answer)
                seen[answer] += 1
        self.assertTrue(min(seen.values()) > 50, seen)

    def test_by_all_parties(self):
        dice, seen = Random(63), {True: 0, False: 0}
        for covers, worths, owners in cases(622, plain.MIDDLE):
            ground = Ground(covers)
            some = [by_order(ground, worths, owners, turns) for turns in itertools.permutations(range(4))]
            for _ in range(15):
                # Between splits that hold, or just beside.
                one, other = dice.choice(some), dice.choice(some)
                part = Fraction(dice.randint(-1, 7), dice.randint(3, 6))
                shares = [part * share + (1 - part) * more for share, more in zip(one, other)]
                if dice.randint(0, 4) == 0:
                    shares[dice.randrange(4)] += Fraction(dice.choice((-1, 1)), 100)
                answer = holds(covers, worths, owners, shares)
                told = tuple(plain.pair(share) for share in shares)
                with self.subTest(covers=covers, worths=worths, owners=owners, shares=told):
                    self.assertIs(shares_hold(ground, worths, owners, told), answer)
                seen[answer] += 1
        self.assertTrue(min(seen.values()) > 50, seen)

    def test_shares(self):
        # The gains: owners 0 and 1 have 3 together, 0 and 2 have 1, all three of them have 7.
        for shares, answer in ((((7, 2), (3, 1), (1, 2), (0, 1)), True), (((0, 1), (3, 1), (4, 1), (0, 1)), True),
                               (((0, 1), (14, 5), (21, 5), (0, 1)), False), (((1, 2), (5, 2), (4, 1), (0, 1)), True),
                               (((1, 2), (7, 3), (25, 6), (0, 1)), False), (((1, 2), (5, 2), (4, 1), (1, 100)), False),
                               (((-1, 2), (7, 2), (4, 1), (0, 1)), False), (((7, 1), (0, 1), (0, 1), (0, 1)), True),
                               (((7, 1), (0, 1), (1, 9), (-1, 9)), False), (((8, 1), (-1, 1), (0, 1), (0, 1)), False),
                               # All of them, but of another sum.
                               (((7, 1),) * 4, False), (((0, 1),) * 4, False),
                               (((4, 1), (3, 1), (0, 1), (0, 1)), True)):
            self.assertIs(shares_hold(GROUND, WORTHS, OWNERS, shares), answer, shares)

    def test_values_that_are_none(self):
        for value in faults.WRONG + ((0, 3, 4, 0), ((0, 1), (3, 1), (8, 2), (0, 1)), ((0, 2), (3, 1), (4, 1), (0, 1)),
                                     [(0, 1), (3, 1), (4, 1), (0, 1)], ([0, 1], (3, 1), (4, 1), (0, 1)),
                                     ((0, 1), (3, 1), (4, 1)), ((0, 1), (3, 1), (4, 1), (0, 1), (0, 1)),
                                     ((0, 1), (3, True), (4, 1), (0, 1)), ((False, 1), (3, 1), (4, 1), (0, 1)),
                                     ((0, -1), (3, 1), (4, 1), (0, 1)), ((0, 1), (-3, -1), (4, 1), (0, 1)),
                                     ((0, 1), (3, 1), (4, 1), (0, 0)), ((0, 1), (3, 1, 1), (4, 1), (0, 1)),
                                     ((0, 1), ("3", 1), (4, 1), (0, 1)), ((0, 1), (3, None), (4, 1), (0, 1))):
            self.assertIs(shares_hold(GROUND, WORTHS, OWNERS, value), False, str(value)[:60])
        self.assertIs(shares_hold(GROUND, WORTHS, OWNERS, ((0, 1), (3, 1), (4, 1), (0, 1))), True)

    def test_wrong_worths_and_owners(self):
        for function, rest in ((shares_hold, (None,)), (average_split, ())):
            for owners in (None, (), (0, 0, 1), [0, 0, 1, 2], (0, 0, 1, 4), (0, 0, 1, True), "0012", (0, 0, 1, 2, 3)):
                self.assertRaises(errors.BadOwners, function, GROUND, WORTHS, owners, *rest)
                self.assertRaises(errors.BadWorths, function, GROUND, (0, 0, 0, 51), owners, *rest)
                self.assertRaises(errors.BadGround, function, None, None, owners, *rest)


class AverageTest(unittest.TestCase):
    def test_by_all_orders(self):
        for covers, worths, owners in cases(63, plain.MIDDLE):
            ground, sums = Ground(covers), [Fraction(0)] * 4
            for turns in itertools.permutations(range(4)):
                for place, owner in enumerate(turns):
                    ahead, now = tuple(sorted(turns[:place])), tuple(sorted(turns[:place + 1]))
                    sums[owner] += (plain.gain(covers, worths, owners, now)
                                    - plain.gain(covers, worths, owners, ahead))
            told = tuple(plain.pair(share / 24) for share in sums)
            with self.subTest(covers=covers, worths=worths, owners=owners):
                self.assertEqual(average_split(ground, worths, owners), told)
                self.assertIs(shares_hold(ground, worths, owners, told), True)

    def test_who_is_needed_by_all(self):
        # Three owners, none of whom has anything without the two others, get a third each.
        ground = Ground(((), (0,), (1,)))
        self.assertEqual(average_split(ground, (0, 0, 50), (0, 1, 2)), ((50, 3), (50, 3), (50, 3), (0, 1)))
        self.assertEqual(average_split(ground, (0, 0, 50), (3, 3, 1)), ((0, 1), (25, 1), (0, 1), (25, 1)))
        # Four owners of which one needs each of the others.
        self.assertEqual(average_split(Ground(((), (), (), (0, 1, 2))), (0, 0, 0, 9), (0, 1, 2, 3)), ((9, 4),) * 4)
        self.assertEqual(average_split(Ground(((), (0,), (0,), (0,))), (0, 1, 1, 1), (0, 1, 2, 3)),
                         ((3, 2), (1, 2), (1, 2), (1, 2)))

    def test_between_the_splits(self):
        for covers, worths, owners in list(cases(631, plain.SMALL)):
            splits = all_splits(Ground(covers), worths, owners)
            if len(splits) == 1:
                self.assertEqual(average_split(Ground(covers), worths, owners), tuple((s, 1) for s in splits[0]))


if __name__ == "__main__":
    unittest.main()
