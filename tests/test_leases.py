"""Points 45 and 46: owners of blocks, and what parties of them dig alone."""

import unittest
from random import Random

from pitlots import errors
from pitlots.grounds import Ground
from pitlots.leases import bend, gain_of, own_pit
from pitlots.worths import best_worth, least_best
from tests import plain

GROUND, WORTHS, OWNERS = Ground(((), (), (0, 1), (1,))), (-2, -3, 8, 4), (0, 0, 1, 2)


def cases():
    dice = Random(45)
    for covers in plain.MIDDLE:
        for _ in range(3):
            yield covers, plain.some_worths(dice, len(covers)), plain.some_owners(dice, len(covers))


class LeasesTest(unittest.TestCase):
    def test_by_all_pits(self):
        seen = {"one": 0, "several": 0}
        for covers, worths, owners in cases():
            for party in plain.PARTIES:
                alone = plain.pits_alone(covers, owners, party)
                most = max(plain.worth(worths, pit) for pit in alone)
                best = [pit for pit in alone if plain.worth(worths, pit) == most]
                with self.subTest(covers=covers, worths=worths, owners=owners, party=party):
                    self.assertEqual(gain_of(Ground(covers), worths, owners, party), most)
                    self.assertEqual(own_pit(Ground(covers), worths, owners, party), plain.common(best))
                seen["several" if len(best) > 1 else "one"] += 1
        self.assertTrue(min(seen.values()) > 100, seen)

    def test_none_and_all(self):
        for covers, worths, owners in cases():
            ground = Ground(covers)
            self.assertEqual(gain_of(ground, worths, owners, ()), 0)
            self.assertEqual(own_pit(ground, worths, owners, ()), ())
            self.assertEqual(gain_of(ground, worths, owners, (0, 1, 2, 3)), best_worth(ground, worths))
            self.assertEqual(own_pit(ground, worths, owners, (0, 1, 2, 3)), least_best(ground, worths))

    def test_owners_without_blocks(self):
        for covers, worths, owners in cases():
            for owner in range(4):
                if owner not in owners:
                    self.assertEqual(gain_of(Ground(covers), worths, owners, (owner,)), 0)
                    for party in plain.PARTIES:
                        more = tuple(sorted(set(party) | {owner}))
                        self.assertEqual(gain_of(Ground(covers), worths, owners, more),
                                         gain_of(Ground(covers), worths, owners, party))
                        self.assertEqual(own_pit(Ground(covers), worths, owners, more),
                                         own_pit(Ground(covers), worths, owners, party))

    def test_one_owner_of_all(self):
        owners = (3,) * 4
        self.assertEqual([gain_of(GROUND, WORTHS, owners, party) for party in ((3,), (0, 3), (0, 1, 2))], [7, 7, 0])
        self.assertEqual([own_pit(GROUND, WORTHS, owners, party) for party in ((3,), (0, 1, 2))], [(0, 1, 2, 3), ()])

    def test_the_least_of_several_pits(self):
        ground, owners = Ground(((), (0,), ())), (0, 0, 1)
        self.assertEqual(own_pit(ground, (-3, 3, 0), owners, (0, 1)), ())
        self.assertEqual(own_pit(ground, (-3, 4, 0), owners, (0, 1)), (0, 1))
        self.assertEqual(own_pit(ground, (0, 0, 1), owners, (0, 1)), (2,))

    def test_bend(self):
        seen = {True: 0, False: 0}
        for covers, worths, owners in list(cases())[::4]:
            ground = Ground(covers)
            gains = {party: plain.gain(covers, worths, owners, party) for party in plain.PARTIES}
            for one in plain.PARTIES:
                for other in plain.PARTIES:
                    both, shared = plain.together([one, other]), plain.common([one, other])
                    told = bend(ground, worths, owners, one, other)
                    self.assertEqual(told, gains[both] + gains[shared] - gains[one] - gains[other])
                    self.assertTrue(told >= 0)
                    seen[told > 0] += 1
        self.assertTrue(min(seen.values()) > 100, seen)

    def test_bend_of_a_party_within_another_one(self):
        for covers, worths, owners in list(cases())[::10]:
            for party in plain.PARTIES:
                for less in ((), party[:1], party):
                    self.assertEqual(bend(Ground(covers), worths, owners, less, party), 0)

    def test_wrong_owners(self):
        for owners in (None, 0, "0000", (), (0, 0, 0), (0,) * 5, [0] * 4, (0, 0, 0, 4), (-1, 0, 0, 0), (0, 0, True, 0),
                       (0, 0, 0, None), (0, 0, 0, "0"), ((0,),) * 4, {0: 0}, True):
            for function, rest in ((gain_of, (None,)), (own_pit, (None,)), (bend, (None, None))):
                self.assertRaises(errors.BadOwners, function, GROUND, WORTHS, owners, *rest)
                self.assertRaises(errors.BadWorths, function, GROUND, WORTHS[1:], owners, *rest)
                self.assertRaises(errors.BadGround, function, WORTHS, None, owners, *rest)
        self.assertEqual(gain_of(GROUND, WORTHS, (3, 3, 3, 3), (3,)), 7)

    def test_wrong_parties(self):
        for party in (None, 0, "0", True, (4,), (-1,), (1, 0), (0, 0), (0, 1, 2, 3, 4), [0], {0: 0}, (False,),
                      (0, True), (None,), ("0",), ((0,),), (0, 1, 2, 2)):
            self.assertRaises(errors.BadParty, gain_of, GROUND, WORTHS, OWNERS, party)
            self.assertRaises(errors.BadParty, own_pit, GROUND, WORTHS, OWNERS, party)
            self.assertRaises(errors.BadParty, bend, GROUND, WORTHS, OWNERS, party, ())
            self.assertRaises(errors.BadParty, bend, GROUND, WORTHS, OWNERS, (), party)
            self.assertRaises(errors.BadOwners, bend, GROUND, WORTHS, OWNERS[1:], party, party)


if __name__ == "__main__":
    unittest.main()
