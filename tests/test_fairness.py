"""Points 64 and 65: the fair split, and what can go from a share to another one."""

import itertools
import unittest
from fractions import Fraction
from random import Random

from pitlots import errors
from pitlots.averages import average_split, shares_hold
from pitlots.fairness import fair_ladder, fair_split, first_unfair, spare, tight_parties
from pitlots.grounds import Ground
from pitlots.splits import by_order
from tests import plain

GROUND, WORTHS, OWNERS = Ground(((), (), (0, 1), (1,))), (-2, -3, 8, 4), (0, 0, 1, 2)
SOME = ((4, 1), (3, 1), (0, 1), (0, 1))
ALL = (0, 1, 2, 3)
PAIRS = list(itertools.product(range(4), range(4)))


def cases(seed, shapes):
    dice = Random(seed)
    for covers in shapes:
        worths = tuple(dice.randint(0, 8) if needs else dice.randint(-4, 2) for needs in covers)
        # Sometimes all owners have something of their own, sometimes just together.
        worths = dice.choice((worths, worths, tuple(abs(worth) for worth in worths)))
        yield covers, worths, plain.some_owners(dice, len(covers))


def gains_of(covers, worths, owners):
    return {party: plain.gain(covers, worths, owners, party) for party in plain.PARTIES}


def holding(gains, shares):
    sums = {party: sum(shares[owner] for owner in party) for party in gains}
    return sums[ALL] == gains[ALL] and all(gains[party] <= sums[party] for party in gains)


def some_shares(dice, ground, worths, owners, many):
    """Some shares that hold, as Fractions: averages of splits by orders."""
    splits = [by_order(ground, worths, owners, turns) for turns in itertools.permutations(range(4))]
    for _ in range(many):
        parts = dice.sample(splits, dice.randint(1, 4))
        yield [Fraction(sum(split[owner] for split in parts), len(parts)) for owner in range(4)]


def ladder_plainly(gains):
    found, ahead = [], ()
    while ahead != ALL:
        left = [party for party in plain.PARTIES if party and not set(party) & set(ahead)]
        grown = {party: Fraction(gains[plain.together([party, ahead])] - gains[ahead], len(party)) for party in left}
        best = [party for party in left if grown[party] == max(grown.values())]
        # The greatest of them has all the others.
        greatest = max(best, key=len)
        assert all(set(party) <= set(greatest) for party in best)
        found.append((grown[greatest], greatest))
        ahead = plain.together([ahead, greatest])
    return found


class FairTest(unittest.TestCase):
    def test_ladder_by_all_parties(self):
        lengths = {1: 0, 2: 0, 3: 0, 4: 0}
        for covers, worths, owners in cases(64, plain.MIDDLE * 8):
            ground, told = Ground(covers), ladder_plainly(gains_of(covers, worths, owners))
            with self.subTest(covers=covers, worths=worths, owners=owners):
                self.assertEqual(fair_ladder(ground, worths, owners),
                                 [(plain.pair(average), party) for average, party in told])
                shares = {owner: plain.pair(average) for average, party in told for owner in party}
                self.assertEqual(fair_split(ground, worths, owners), tuple(shares[owner] for owner in range(4)))
                self.assertTrue(all(one[0] > other[0] for one, other in zip(told, told[1:])))
            lengths[len(told)] += 1
        self.assertTrue(min(lengths.values()) > 2, lengths)

    def test_no_shares_that_hold_are_greater_in_order(self):
        dice, seen = Random(641), 0
        for covers, worths, owners in cases(642, plain.MIDDLE):
            ground, gains = Ground(covers), gains_of(covers, worths, owners)
            fair = [plain.fraction_of(share) for share in fair_split(ground, worths, owners)]
            self.assertTrue(holding(gains, fair))
            self.assertIs(shares_hold(ground, worths, owners, fair_split(ground, worths, owners)), True)
            average = [plain.fraction_of(share) for share in average_split(ground, worths, owners)]
            for shares in [average] + list(some_shares(dice, ground, worths, owners, 30)):
                self.assertTrue(sorted(shares) < sorted(fair) or shares == fair)
                # Halfway to it, too.
                halfway = [(share + more) / 2 for share, more in zip(shares, fair)]
                self.assertTrue(sorted(halfway) < sorted(fair) or shares == fair)
                seen += shares != fair
        self.assertTrue(seen > 100, seen)

    def test_one_party_of_all(self):
        ground = Ground(((), (0,), (1,), (2,)))
        self.assertEqual(fair_split(ground, (0, 0, 0, 9), (0, 1, 2, 3)), ((9, 4),) * 4)
        self.assertEqual(fair_ladder(ground, (0, 0, 0, 9), (0, 1, 2, 3)), [((9, 4), ALL)])
        self.assertEqual(fair_ladder(ground, (-9,) * 4, (0, 1, 2, 3)), [((0, 1), ALL)])
        self.assertEqual(fair_split(ground, (-9,) * 4, (0, 1, 2, 3)), ((0, 1),) * 4)

    def test_each_owner_alone(self):
        ground = Ground(((),) * 4)
        self.assertEqual(fair_ladder(ground, (3, 9, 1, -2), ALL), [((9, 1), (1,)), ((3, 1), (0,)), ((1, 1), (2,)),
                                                                   ((0, 1), (3,))])
        self.assertEqual(fair_split(ground, (3, 9, 1, -2), ALL), ((3, 1), (9, 1), (1, 1), (0, 1)))
        # Owners who have the same are told together.
        self.assertEqual(fair_ladder(ground, (3, 9, 3, 9), ALL), [((9, 1), (1, 3)), ((3, 1), (0, 2))])

    def test_owners_without_blocks(self):
        self.assertEqual(fair_split(GROUND, WORTHS, (2,) * 4), ((0, 1), (0, 1), (7, 1), (0, 1)))
        self.assertEqual(fair_ladder(GROUND, WORTHS, (2,) * 4), [((7, 1), (2,)), ((0, 1), (0, 1, 3))])

    def test_wrong_arguments(self):
        for function in (fair_split, fair_ladder):
            for owners in (None, (), (0, 0, 1), [0, 0, 1, 2], (0, 0, 1, 4), (0, 0, 1, True), "0012", (0, 0, 1, 2, 3)):
                self.assertRaises(errors.BadOwners, function, GROUND, WORTHS, owners)
                self.assertRaises(errors.BadWorths, function, GROUND, (0, 0, 0, 51), owners)
                self.assertRaises(errors.BadGround, function, None, None, owners)


class SpareTest(unittest.TestCase):
    def test_by_all_parties(self):
        dice, seen = Random(65), {"spare": 0, "none": 0, "unfair": 0, "fair": 0}
        for covers, worths, owners in cases(651, plain.MIDDLE):
            ground, gains = Ground(covers), gains_of(covers, worths, owners)
            fair = [plain.fraction_of(share) for share in fair_split(ground, worths, owners)]
            for shares in [fair] + list(some_shares(dice, ground, worths, owners, 4)):
                told = tuple(plain.pair(share) for share in shares)
                with self.subTest(covers=covers, worths=worths, owners=owners, shares=told):
                    self.assertEqual(tight_parties(ground, worths, owners, told),
                                     [party for party in plain.PARTIES
                                      if sum(shares[owner] for owner in party) == gains[party]])
                    unfair = []
                    for one, other in PAIRS:
                        much = spare(ground, worths, owners, told, one, other)
                        if one == other:
                            self.assertIsNone(much)
                            continue
                        much = plain.fraction_of(much)
                        self.check_spare(gains, shares, one, other, much)
                        seen["spare" if much else "none"] += 1
                        if much and shares[one] > shares[other]:
                            unfair.append((one, other))
                    self.assertEqual(first_unfair(ground, worths, owners, told), unfair[0] if unfair else None)
                    seen["unfair" if unfair else "fair"] += 1
        self.assertTrue(min(seen.values()) > 20, seen)

    def check_spare(self, gains, shares, one, other, much):
        """So much can go from one share to another one, but nothing more."""
        self.assertTrue(much >= 0)
        for more, answer in ((0, True), (Fraction(1, 1000), False)):
            moved = list(shares)
            moved[one] -= much + more
            moved[other] += much + more
            self.assertIs(holding(gains, moved), answer)

    def test_told(self):
        self.assertEqual([spare(GROUND, WORTHS, OWNERS, SOME, one, other) for one, other in PAIRS if one < other],
                         [(3, 1), (4, 1), (0, 1), (3, 1), (0, 1), (0, 1)])
        self.assertEqual([spare(GROUND, WORTHS, OWNERS, SOME, one, one) for one in range(4)], [None] * 4)
        self.assertEqual(first_unfair(GROUND, WORTHS, OWNERS, SOME), (0, 1))
        self.assertEqual(spare(GROUND, WORTHS, OWNERS, ((7, 2), (3, 1), (1, 2), (0, 1)), 0, 1), (3, 1))
        self.assertEqual(spare(GROUND, WORTHS, OWNERS, ((7, 3),) * 3 + ((0, 1),), 2, 3), (0, 1))
        self.assertEqual(first_unfair(GROUND, WORTHS, OWNERS, ((0, 1), (3, 1), (4, 1), (0, 1))), (1, 0))
        self.assertIsNone(first_unfair(GROUND, WORTHS, OWNERS, ((7, 3),) * 3 + ((0, 1),)))
        self.assertEqual(tight_parties(GROUND, WORTHS, OWNERS, ((7, 3),) * 3 + ((0, 1),)), [(), (3,), (0, 1, 2), ALL])

    def test_equal_shares_are_not_unfair(self):
        # There is much to spare between equal shares, but none is the greater.
        ground = Ground(((), (0,)))
        self.assertEqual(spare(ground, (0, 8), (0, 1), ((4, 1), (4, 1), (0, 1), (0, 1)), 0, 1), (4, 1))
        self.assertIsNone(first_unfair(ground, (0, 8), (0, 1), ((4, 1), (4, 1), (0, 1), (0, 1))))
        self.assertEqual(first_unfair(ground, (0, 8), (0, 1), ((15, 4), (17, 4), (0, 1), (0, 1))), (1, 0))
        self.assertEqual(first_unfair(ground, (0, 8), (0, 1), ((17, 4), (15, 4), (0, 1), (0, 1))), (0, 1))

    def test_wrong_shares(self):
        for function, rest in ((tight_parties, ()), (spare, (None, None)), (spare, (4, 4)), (first_unfair, ())):
            for shares, error in (
                    (None, errors.BadShares), ((4, 3, 0, 0), errors.BadShares), (list(SOME), errors.BadShares),
                    (SOME[:3], errors.BadShares), (SOME + ((0, 1),), errors.BadShares),
                    (((8, 2),) + SOME[1:], errors.BadShares), (SOME[:3] + ((0, 2),), errors.BadShares),
                    (SOME[:3] + ((0, -1),), errors.BadShares), (SOME[:3] + ((True, 1),), errors.BadShares),
                    (SOME[:3] + ([0, 1],), errors.BadShares), (SOME[:3] + ((0, 0),), errors.BadShares),
                    (((4, True),) + SOME[1:], errors.BadShares),
                    (((0, 1),) * 4, errors.NotWhole), (((7, 1),) * 4, errors.NotWhole),
                    (((4, 1), (3, 1), (0, 1), (1, 1000)), errors.NotWhole), (((-7, 1),) * 4, errors.NotWhole),
                    (((4, 1), (3, 1), (-1, 1), (1, 1)), errors.NotHeld),
                    (((0, 1), (2, 1), (5, 1), (0, 1)), errors.NotHeld),
                    (((8, 1), (-1, 1), (0, 1), (0, 1)), errors.NotHeld),
                    (((0, 1), (29, 10), (41, 10), (0, 1)), errors.NotHeld),
                    # Of another sum, and held by no party: the sum is told.
                    (((0, 1), (0, 1), (0, 1), (1, 1)), errors.NotWhole)):
                self.assertRaises(error, function, GROUND, WORTHS, OWNERS, shares, *rest)
                self.assertRaises(errors.BadOwners, function, GROUND, WORTHS, (0, 0, 1, 4), shares, *rest)
                self.assertRaises(errors.BadWorths, function, GROUND, None, (0, 0, 1, 4), shares, *rest)
                self.assertRaises(errors.BadGround, function, None, None, None, shares, *rest)

    def test_wrong_owners(self):
        for owner in (None, -1, 4, True, False, "0", (0,), [0], {}):
            for other in (0, owner, 4):
                self.assertRaises(errors.BadOwner, spare, GROUND, WORTHS, OWNERS, SOME, owner, other)
                self.assertRaises(errors.BadOwner, spare, GROUND, WORTHS, OWNERS, SOME, other, owner)
        self.assertIsNone(spare(GROUND, WORTHS, OWNERS, SOME, 3, 3))


if __name__ == "__main__":
    unittest.main()
