"""Points 11, 12 and 16: sharings of the costs, and what is paid of them at a price."""

import unittest
from fractions import Fraction
from random import Random

from pitlots import errors
from pitlots.grounds import Ground
from pitlots.ladders import rates
from pitlots.prices import best_at
from pitlots.sharings import paid_at, sharing, shows_sharing
from tests import faults, plain

GROUND, GAINS, COSTS = Ground(((), (), (0, 1), (1,))), (0, 0, 2, 3), (6, 3, 1, 0)
VALUE = ((None, None, (7, 2), (1, 1)), ((2, 0, (6, 1)), (2, 2, (1, 1)), (3, 1, (3, 1))))
# Two blocks with one gain each that need both costly ones: what each pays of them can be many things.
TWINS = Ground(((), (), (0, 1), (0, 1))), (0, 0, 1, 1), (4, 2, 0, 0)


def cases():
    dice = Random(11)
    for covers in plain.MIDDLE + list(plain.GREAT_SHAPES.values()):
        for _ in range(8 if len(covers) < 7 else 2):
            yield (covers, *plain.some_gains_and_costs(dice, len(covers)))


def is_plain_sharing(covers, gains, costs, own_rates, shares):
    """What the document says of sharings, of rates and shares that are Fractions or None."""
    payers = {}
    for block in range(len(covers)):
        users = {other for other in range(len(covers)) if other == block or block in plain.needed(covers, other)}
        payers[block] = {other for other in users if gains[other] > 0}
    if [rate is None for rate in own_rates] != [gain == 0 for gain in gains]:
        return False
    if any(rate is not None and rate < 0 for rate in own_rates):
        return False
    ways = [share[:2] for share in shares]
    if ways != sorted(set(ways)) or any(part <= 0 for _, _, part in shares):
        return False
    for giver, taker, _ in shares:
        if costs[taker] == 0 or giver not in payers[taker]:
            return False
        if own_rates[giver] != min(own_rates[other] for other in payers[taker]):
            return False
    for block in range(len(covers)):
        if costs[block] and payers[block] and sum(part for _, to, part in shares if to == block) != costs[block]:
            return False
        if gains[block]:
            if sum(part for giver, _, part in shares if giver == block) != own_rates[block] * gains[block]:
                return False
    return True


def as_fractions(value):
    own_rates = tuple(None if rate is None else plain.fraction_of(rate) for rate in value[0])
    return own_rates, tuple((giver, taker, plain.fraction_of(part)) for giver, taker, part in value[1])


def as_value(own_rates, shares):
    return (tuple(None if rate is None else plain.pair(rate) for rate in own_rates),
            tuple((giver, taker, plain.pair(part)) for giver, taker, part in shares))


def changed(dice, covers, own_rates, shares):
    """A sharing with some things other than in one: mostly none."""
    own_rates, shares = list(own_rates), [list(share) for share in shares]
    for _ in range(dice.randint(1, 2)):
        what, place = dice.randint(0, 6), dice.randrange(len(shares)) if shares else None
        if what == 0:
            block = dice.randrange(len(own_rates))
            own_rates[block] = None if dice.randint(0, 3) == 0 else (own_rates[block] or 0) + dice.randint(-1, 1)
        elif what == 1 or place is None:
            share = [dice.randrange(len(covers)), dice.randrange(len(covers)), Fraction(dice.randint(0, 3))]
            shares.insert(dice.randint(0, len(shares)), share)
        elif what == 2:
            shares.pop(place)
        elif what == 3:
            shares[place][2] += dice.choice((-1, 1))
        elif what == 4:
            shares[place][dice.randint(0, 1)] = dice.randrange(len(covers))
        elif what == 5:
            dice.shuffle(shares)
        else:
            moved(dice, shares)
    own_rates = [None if rate is None else Fraction(rate) for rate in own_rates]
    return tuple(own_rates), tuple(tuple(share) for share in shares)


def moved(dice, shares):
    """Let two payers of two costs change a part: often a sharing again."""
    one, other = dice.choice(shares), dice.choice(shares)
    part = min(one[2], other[2]) / dice.choice((1, 2, 3))
    table = {(share[0], share[1]): share[2] for share in shares}
    for giver, taker, more in ((one[0], one[1], -part), (other[0], other[1], -part), (one[0], other[1], part),
                               (other[0], one[1], part)):
        table[giver, taker] = table.get((giver, taker), 0) + more
    shares[:] = [[giver, taker, more] for (giver, taker), more in sorted(table.items()) if more]


class SharingTest(unittest.TestCase):
    def test_sharings(self):
        for covers, gains, costs in cases():
            with self.subTest(covers=covers, gains=gains, costs=costs):
                value = sharing(Ground(covers), gains, costs)
                self.assertTrue(is_plain_sharing(covers, gains, costs, *as_fractions(value)))
                self.assertEqual(as_value(*as_fractions(value)), value)
                self.assertIs(shows_sharing(Ground(covers), gains, costs, value), True)

    def test_rates_are_those_of_the_blocks(self):
        for covers, gains, costs in cases():
            told = rates(Ground(covers), gains, costs)
            own = tuple(rate if gain else None for rate, gain in zip(told, gains))
            self.assertEqual(sharing(Ground(covers), gains, costs)[0], own)

    def test_blocks_that_pay_for_themselves(self):
        self.assertEqual(sharing(Ground(((), (0,))), (2, 3), (5, 7)),
                         (((12, 5), (12, 5)), ((0, 0, (24, 5)), (1, 0, (1, 5)), (1, 1, (7, 1)))))
        self.assertEqual(sharing(Ground(((), (0,))), (2, 3), (5, 9)),
                         (((5, 2), (3, 1)), ((0, 0, (5, 1)), (1, 1, (9, 1)))))

    def test_no_gains_and_no_costs(self):
        ground = Ground(((), (0,)))
        for gains, costs, told in (((0, 0), (5, 7), ((None, None), ())), ((0, 0), (0, 0), ((None, None), ())),
                                   ((1, 2), (0, 0), (((0, 1), (0, 1)), ())),
                                   ((1, 0), (0, 7), (((0, 1), None), ()))):
            self.assertEqual(sharing(ground, gains, costs), told)
            self.assertIs(shows_sharing(ground, gains, costs, told), True)


class ShowsSharingTest(unittest.TestCase):
    def test_changed_sharings(self):
        dice = Random(111)
        for covers, gains, costs in cases():
            own_rates, shares = as_fractions(sharing(Ground(covers), gains, costs))
            for _ in range(25):
                other = changed(dice, covers, own_rates, shares)
                right = is_plain_sharing(covers, gains, costs, *other)
                with self.subTest(covers=covers, gains=gains, costs=costs, other=other):
                    self.assertIs(shows_sharing(Ground(covers), gains, costs, as_value(*other)), right)
                if right:
                    self.assertEqual(other[0], own_rates)

    def test_parts_moved_between_payers(self):
        dice, seen = Random(112), {True: 0, False: 0}
        for covers in (((), (), (0, 1), (0, 1)), ((), (), (), (0, 1), (0, 1, 2), (1, 2)), ((), (0,), (1,), (1,), (1,))):
            for _ in range(120):
                gains = tuple(dice.randint(1, 9) if firsts else 0 for firsts in covers)
                costs = tuple(dice.randint(1, 50) for _ in covers)
                own_rates, shares = as_fractions(sharing(Ground(covers), gains, costs))
                for _ in range(10):
                    parts = [list(share) for share in shares]
                    moved(dice, parts)
                    other = own_rates, tuple(tuple(share) for share in parts)
                    right = is_plain_sharing(covers, gains, costs, *other)
                    seen[right] += other != (own_rates, shares)
                    self.assertIs(shows_sharing(Ground(covers), gains, costs, as_value(*other)), right)
        self.assertTrue(min(seen.values()) > 100, seen)

    def test_other_sharings(self):
        own_rates = (None, None, (3, 1), (3, 1))
        for part in (Fraction(1), Fraction(3, 2), Fraction(5, 2), Fraction(2), Fraction(3)):
            shares = [(2, 0, part), (2, 1, 3 - part), (3, 0, 4 - part), (3, 1, part - 1)]
            value = (own_rates, tuple((*way, plain.pair(share)) for *way, share in shares if share))
            self.assertIs(shows_sharing(*TWINS, value), True)
        value = (own_rates, ((2, 0, (7, 2)), (2, 1, (1, 2)), (3, 0, (1, 2)), (3, 1, (3, 2))))
        self.assertIs(shows_sharing(*TWINS, value), False)
        self.assertIs(shows_sharing(*TWINS, ((None, None, (2, 1), (4, 1)), ((2, 1, (2, 1)), (3, 0, (4, 1))))), False)

    def test_shares_are_above_0(self):
        own_rates = (None, None, (3, 1), (3, 1))
        for shares, right in ((((2, 0, (3, 1)), (3, 0, (1, 1)), (3, 1, (2, 1))), True),
                              (((2, 0, (3, 1)), (2, 1, (0, 1)), (3, 0, (1, 1)), (3, 1, (2, 1))), False),
                              (((2, 0, (4, 1)), (2, 1, (-1, 1)), (3, 1, (3, 1))), False)):
            self.assertIs(shows_sharing(*TWINS, (own_rates, shares)), right)

    def test_costs_that_no_gain_needs_are_not_shared(self):
        ground = Ground(((), (), (0,)))
        self.assertEqual(sharing(ground, (1, 0, 0), (2, 5, 7)), (((2, 1), None, None), ((0, 0, (2, 1)),)))
        self.assertIs(shows_sharing(ground, (1, 0, 0), (2, 5, 7), (((2, 1), None, None), ((0, 0, (2, 1)),))), True)

    def test_just_the_least_rates_pay(self):
        # Both need block 0; were it shared by halves, block 2 would pay at a greater rate than block 1.
        ground, gains, costs = Ground(((), (0,), (0,))), (0, 1, 1), (2, 0, 5)
        self.assertEqual(sharing(ground, gains, costs), ((None, (2, 1), (5, 1)), ((1, 0, (2, 1)), (2, 2, (5, 1)))))
        value = ((None, (1, 1), (6, 1)), ((1, 0, (1, 1)), (2, 0, (1, 1)), (2, 2, (5, 1))))
        self.assertIs(shows_sharing(ground, gains, costs, value), False)
        value = ((None, (0, 1), (7, 1)), ((2, 0, (2, 1)), (2, 2, (5, 1))))
        self.assertIs(shows_sharing(ground, gains, costs, value), False)

    def test_any_value(self):
        own_rates, shares = VALUE
        self.assertIs(shows_sharing(GROUND, GAINS, COSTS, VALUE), True)
        wrong = [[own_rates, shares], (own_rates,), (own_rates, shares, ()), (shares, own_rates), (own_rates, None),
                 (None, shares), (list(own_rates), shares), (own_rates, list(shares)), (own_rates[:3], shares),
                 (own_rates + (None,), shares), (own_rates, shares[::-1]), (own_rates, shares[:1] + shares),
                 ((0, None, (7, 2), (1, 1)), shares), (((0, 1), None, (7, 2), (1, 1)), shares),
                 ((False, None, (7, 2), (1, 1)), shares), ((None, None, (14, 4), (1, 1)), shares),
                 ((None, None, (7, 2), None), shares), ((None, None, (7, 2), (True, 1)), shares),
                 ((None, None, (7, 2), (1, True)), shares), ((None, None, (7, 2), 1), shares),
                 ((None, None, (7, 2), (-1, -1)), shares), ((None, None, (7, 2), (1, 1, 1)), shares),
                 ((None, None, (7, 2), [1, 1]), shares), ((None, None, "7", (1, 1)), shares)]
        for third in ((2, 0, 6), (2, 0, (12, 2)), (2, 0, (6, True)), (2, False, (6, 1)), (2, 0, [6, 1]), (2, 0),
                      (2, 0, (6, 1), 1), [2, 0, (6, 1)], (2, 4, (6, 1)), (2, -4, (6, 1)), (2, "0", (6, 1)), None,
                      (2, 0, (0, 1)), (2, 0, (-6, 1)), (2, 0, None), (2, 0, "6")):
            wrong.append((own_rates, (third,) + shares[1:]))
        for value in wrong + list(faults.WRONG):
            with self.subTest(value=str(value)[:60]):
                self.assertIs(shows_sharing(GROUND, GAINS, COSTS, value), False)

    def test_rates_of_costs_of_0(self):
        ground, gains, costs = Ground(((), (0,))), (1, 1), (0, 0)
        self.assertIs(shows_sharing(ground, gains, costs, (((0, 1), (0, 1)), ())), True)
        for own_rates in (((0, 1), (1, 1)), ((0, 1), (-1, 1)), ((0, 1), (0, 2)), ((0, 1), None), ((0, 1), 0),
                          ((0, 1), (0, True)), ((False, 1), (0, 1))):
            self.assertIs(shows_sharing(ground, gains, costs, (own_rates, ())), False)


class PaidAtTest(unittest.TestCase):
    def prices(self, own_rates):
        found = {(0, 1), (1, 1), (7, 2), (1, 1000000), (1000000, 1)}
        return sorted(found | {rate for rate in own_rates if rate is not None}, key=plain.fraction_of)

    def test_parts(self):
        for covers, gains, costs in cases():
            ground, value = Ground(covers), sharing(Ground(covers), gains, costs)
            for price in self.prices(value[0]):
                told, at = [], plain.fraction_of(price)
                for giver, taker, share in value[1]:
                    rate, part = plain.fraction_of(value[0][giver]), plain.fraction_of(share)
                    told.append((giver, taker, part if rate < at else part * at / rate))
                told = tuple((giver, taker, plain.pair(part)) for giver, taker, part in told if part)
                self.assertEqual(paid_at(ground, gains, costs, value, price), told)

    def test_what_it_shows(self):
        for covers, gains, costs in cases():
            ground, value = Ground(covers), sharing(Ground(covers), gains, costs)
            for price in self.prices(value[0]):
                least, at = best_at(ground, gains, costs, price)[1], plain.fraction_of(price)
                paid = as_fractions(((), paid_at(ground, gains, costs, value, price)))[1]
                for block in range(len(covers)):
                    if block in least:
                        self.assertEqual(sum(part for _, to, part in paid if to == block), costs[block])
                    elif gains[block]:
                        self.assertEqual(sum(part for giver, _, part in paid if giver == block), gains[block] * at)
                ready = {block for block, rate in enumerate(value[0])
                         if rate is not None and plain.fraction_of(rate) < at}
                whole = ready.union(*[plain.needed(covers, block) for block in ready])
                self.assertEqual(least, tuple(sorted(whole)))

    def test_at_the_rate_itself_and_at_0(self):
        self.assertEqual(paid_at(GROUND, GAINS, COSTS, VALUE, (7, 2)), VALUE[1])
        self.assertEqual(paid_at(GROUND, GAINS, COSTS, VALUE, (1, 1)),
                         ((2, 0, (12, 7)), (2, 2, (2, 7)), (3, 1, (3, 1))))
        self.assertEqual(paid_at(GROUND, GAINS, COSTS, VALUE, (0, 1)), ())
        self.assertEqual(paid_at(Ground(((),)), (1,), (0,), (((0, 1),), ()), (0, 1)), ())

    def test_any_sharing(self):
        value = ((None, None, (3, 1), (3, 1)), ((2, 0, (2, 1)), (2, 1, (1, 1)), (3, 0, (2, 1)), (3, 1, (1, 1))))
        self.assertEqual(paid_at(*TWINS, value, (1, 1)),
                         ((2, 0, (2, 3)), (2, 1, (1, 3)), (3, 0, (2, 3)), (3, 1, (1, 3))))

    def test_sharing_ahead_of_price(self):
        for price in ((2, 2), 0, None, (1000001, 1)):
            with self.assertRaises(errors.BadSharing):
                paid_at(GROUND, GAINS, COSTS, (VALUE[0], VALUE[1][1:]), price)
            with self.assertRaises(errors.BadPrice):
                paid_at(GROUND, GAINS, COSTS, VALUE, price)


if __name__ == "__main__":
    unittest.main()
