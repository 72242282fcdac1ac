"""Points 9, 13 and 14: worths at prices, the price for a target, and what a block may cost."""

import unittest
from fractions import Fraction
from random import Random

from pitlots import errors
from pitlots.grounds import Ground
from pitlots.payments import payments
from pitlots.prices import best_at, dearest, price_for, worth_at
from pitlots.worths import best_worth, greatest_best, least_best
from tests import plain

GROUND, GAINS, COSTS = Ground(((), (), (0, 1), (1,))), (0, 0, 2, 3), (6, 3, 1, 0)
PRICES = ((0, 1), (1, 1), (2, 1), (7, 2), (5, 3), (1, 7), (1, 1000000), (1000000, 1), (999999, 1000000), (50, 9))


def cases():
    dice = Random(9)
    for covers in plain.GREAT:
        for _ in range(4 if len(covers) < 7 else 1):
            yield (covers, *plain.some_gains_and_costs(dice, len(covers)))


def some_prices(covers, gains, costs):
    """Prices that are told above, and rates, at which pits tie."""
    rates = plain.rates_of(covers, gains, costs) if len(covers) < 6 else []
    return set(PRICES) | {plain.pair(rate) for rate in rates if rate is not None}


class WorthAtTest(unittest.TestCase):
    def test_all_lots(self):
        dice = Random(91)
        for covers in plain.SMALL:
            gains, costs = plain.some_gains_and_costs(dice, len(covers))
            for lot in plain.all_lots(covers):
                for price in PRICES:
                    total = sum(gains[block] * plain.fraction_of(price) - costs[block] for block in lot)
                    self.assertEqual(worth_at(Ground(covers), gains, costs, price, lot), plain.pair(Fraction(total)))

    def test_is_a_fraction_without_a_common_divisor(self):
        self.assertEqual(worth_at(GROUND, GAINS, COSTS, (1, 2), (2,)), (0, 1))
        self.assertEqual(worth_at(GROUND, GAINS, COSTS, (3, 4), (2, 3)), (11, 4))
        self.assertEqual(worth_at(GROUND, GAINS, COSTS, (1, 4), (0, 2)), (-13, 2))
        self.assertEqual(worth_at(GROUND, GAINS, COSTS, (1, 4), ()), (0, 1))

    def test_lot_is_last(self):
        for price, lot, error in (((2, 4), (1, 0), errors.BadPrice), ((2, 1), (1, 0), errors.BadLot)):
            with self.assertRaises(error):
                worth_at(GROUND, GAINS, COSTS, price, lot)


class BestAtTest(unittest.TestCase):
    def test_by_all_pits(self):
        for covers, gains, costs in cases():
            for price in some_prices(covers, gains, costs):
                amounts = plain.amounts_at(gains, costs, plain.fraction_of(price))
                best = plain.best_pits(covers, amounts)
                told = (plain.pair(Fraction(plain.worth(amounts, best[0]))), plain.common(best), plain.together(best))
                self.assertEqual(best_at(Ground(covers), gains, costs, price), told)

    def test_at_0_the_free_blocks_may_be_dug(self):
        self.assertEqual(best_at(Ground(((), (), (0,))), (3, 1, 2), (0, 1, 0), (0, 1)), ((0, 1), (), (0, 2)))

    def test_whole_prices_are_worths(self):
        dice = Random(92)
        for covers in plain.SMALL:
            gains, costs = plain.some_gains_and_costs(dice, len(covers))
            for whole in range(6):
                worths = tuple(gain * whole - cost for gain, cost in zip(gains, costs))
                ground = Ground(covers)
                told = ((best_worth(ground, worths), 1), least_best(ground, worths), greatest_best(ground, worths))
                self.assertEqual(best_at(ground, gains, costs, (whole, 1)), told)
                paid = sum(many for _, _, many in payments(ground, worths))
                self.assertEqual(told[0][0], sum(max(worth, 0) for worth in worths) - paid)

    def test_greater_prices_have_greater_pits(self):
        for covers, gains, costs in cases():
            prices = sorted(some_prices(covers, gains, costs), key=plain.fraction_of)
            answers = [best_at(Ground(covers), gains, costs, price) for price in prices]
            for one, other in zip(answers, answers[1:]):
                self.assertTrue(set(one[2]) >= set(one[1]) and set(one[1]) <= set(other[1]))
                self.assertTrue(set(one[2]) <= set(other[2]))


class BoundsTest(unittest.TestCase):
    def calls(self, gains, costs, price):
        return (lambda: worth_at(GROUND, gains, costs, price, ()), lambda: best_at(GROUND, gains, costs, price),
                lambda: dearest(GROUND, gains, costs, price, 0))

    def test_gains(self):
        for gains in ((9, 0, 0, 0), (9, 9, 9, 9), (0, 0, 0, 0)):
            for call in self.calls(gains, COSTS, (1, 1)) + (lambda: price_for(GROUND, gains, COSTS, 0),):
                call()
        for gains in ((10, 0, 0, 0), (0, 0, 0, -1), (0, 0, 0), (0,) * 5, (0, 0, 0, True), [0] * 4, None):
            for call in self.calls(gains, COSTS, (1, 1)) + (lambda: price_for(GROUND, gains, COSTS, 0),):
                with self.assertRaises(errors.BadGains):
                    call()

    def test_costs(self):
        for costs in ((50, 0, 0, 0), (50, 50, 50, 50), (0, 0, 0, 0)):
            for call in self.calls(GAINS, costs, (1, 1)) + (lambda: price_for(GROUND, GAINS, costs, 0),):
                call()
        for costs in ((51, 0, 0, 0), (0, 0, 0, -1), (0, 0, 0), (0,) * 5, (0, 0, 0, True), [0] * 4, None):
            for call in self.calls(GAINS, costs, (1, 1)) + (lambda: price_for(GROUND, GAINS, costs, 0),):
                with self.assertRaises(errors.BadCosts):
                    call()

    def test_prices(self):
        for price in ((0, 1), (1, 1000000), (1000000, 1), (999999, 1000000)):
            for call in self.calls(GAINS, COSTS, price):
                call()
        for price in ((2, 4), (0, 2), (1000000, 1000000), (1, 0), (0, 0), (1, -1), (-1, 1), (-1, -1), (1000001, 1),
                      (1, 1000001), (1, 1, 1), (1,), [1, 1], (True, 1), (1, True), (1, "1"), (None, 1), 1, "1", None):
            for call in self.calls(GAINS, COSTS, price):
                with self.subTest(price=price), self.assertRaises(errors.BadPrice):
                    call()


class PriceForTest(unittest.TestCase):
    def test_by_all_pits(self):
        for covers, gains, costs in cases():
            for target in (0, 1, 2, 7, 100, 500):
                told = price_for(Ground(covers), gains, costs, target)
                pits = [pit for pit in plain.pits_of(covers) if plain.worth(gains, pit) > 0]
                prices = [Fraction(plain.worth(costs, pit) + target, plain.worth(gains, pit)) for pit in pits]
                least = Fraction(0) if target == 0 else min(prices) if prices else None
                self.assertEqual(told, None if least is None else plain.pair(least))

    def test_just_that_price_reaches_the_target(self):
        for covers, gains, costs in cases():
            for target in (1, 8):
                price = price_for(Ground(covers), gains, costs, target)
                if price is not None and len(covers) < 7:
                    amounts = plain.amounts_at(gains, costs, plain.fraction_of(price))
                    self.assertEqual(max(plain.worth(amounts, pit) for pit in plain.pits_of(covers)), target)

    def test_targets(self):
        self.assertEqual(price_for(GROUND, GAINS, COSTS, 0), (0, 1))
        self.assertEqual(price_for(GROUND, (0, 0, 0, 0), COSTS, 0), (0, 1))
        self.assertEqual(price_for(Ground(((),)), (1,), (50,), 500), (550, 1))
        for target in (-1, 501, True, None, "1", (1,), 10 ** 400):
            with self.assertRaises(errors.BadTarget):
                price_for(GROUND, GAINS, COSTS, target)


class DearestTest(unittest.TestCase):
    def test_by_all_costs(self):
        dice = Random(93)
        for covers in plain.SMALL:
            gains, costs = plain.some_gains_and_costs(dice, len(covers))
            price, block = dice.choice(PRICES), dice.randrange(len(covers))
            fitting = []
            for cost in range(51):
                other = costs[:block] + (cost,) + costs[block + 1:]
                best = plain.best_pits(covers, plain.amounts_at(gains, other, plain.fraction_of(price)))
                if any(block in pit for pit in best):
                    fitting.append(cost)
            self.assertEqual(dearest(Ground(covers), gains, costs, price, block), max(fitting, default=None))

    def test_edges(self):
        one = Ground(((),))
        for gain, price, told in ((0, (0, 1), 0), (1, (7, 2), 3), (9, (1000000, 1), 50), (1, (50, 1), 50),
                                  (1, (101, 2), 50), (1, (49, 1), 49), (1, (1, 1000000), 0)):
            self.assertEqual(dearest(one, (gain,), (50,), price, 0), told)
        two = Ground(((), (0,)))
        self.assertIsNone(dearest(two, (0, 1), (1, 0), (1, 2), 1))
        self.assertEqual(dearest(two, (0, 1), (1, 0), (1, 1), 1), 0)
        self.assertEqual(dearest(two, (0, 1), (1, 0), (1, 1), 0), 1)

    def test_wrong_blocks(self):
        for block in (4, -1, True, "0", None, (0,)):
            with self.assertRaises(errors.BadBlock):
                dearest(GROUND, GAINS, COSTS, (1, 1), block)
            with self.assertRaises(errors.BadPrice):
                dearest(GROUND, GAINS, COSTS, (2, 2), block)


if __name__ == "__main__":
    unittest.main()
