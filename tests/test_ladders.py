"""Points 10, 15 and 16: rates, ladders, layers and pits by year."""

import unittest
from fractions import Fraction
from random import Random

from pitlots import errors
from pitlots.grounds import Ground
from pitlots.ladders import ladder, layers, pits_by_year, rates
from pitlots.prices import best_at
from tests import plain

GROUND, GAINS, COSTS = Ground(((), (), (0, 1), (1,))), (0, 0, 2, 3), (6, 3, 1, 0)


def cases(many=5):
    dice = Random(10)
    for covers in plain.MIDDLE:
        for _ in range(many if len(covers) < 7 else 1):
            yield (covers, *plain.some_gains_and_costs(dice, len(covers)))
    for name in ("long chain", "pyramid"):
        covers = plain.GREAT_SHAPES[name]
        yield (covers, *plain.some_gains_and_costs(dice, len(covers)))


def as_pairs(fractions):
    return tuple(None if rate is None else plain.pair(rate) for rate in fractions)


class RatesTest(unittest.TestCase):
    def test_by_all_pairs_of_pits(self):
        for covers, gains, costs in cases():
            with self.subTest(covers=covers, gains=gains, costs=costs):
                told = rates(Ground(covers), gains, costs)
                self.assertEqual(told, as_pairs(plain.rates_of(covers, gains, costs)))

    def test_blocks_without_a_rate(self):
        for covers, gains, costs in cases():
            for block, rate in enumerate(rates(Ground(covers), gains, costs)):
                own = [gains[other] for other in range(len(covers))
                       if other == block or block in plain.needed(covers, other)]
                self.assertIs(rate is None, max(own) == 0)

    def test_no_gains_at_all(self):
        for covers in plain.GREAT:
            ground, none = Ground(covers), (0,) * len(covers)
            self.assertEqual(rates(ground, none, none), (None,) * len(covers))
            self.assertEqual((ladder(ground, none, none), layers(ground, none, none)), ([], []))

    def test_costs_of_0(self):
        ground = Ground(((), (0,), ()))
        self.assertEqual(rates(ground, (0, 1, 0), (0, 0, 0)), ((0, 1), (0, 1), None))
        self.assertEqual(ladder(ground, (0, 1, 0), (0, 0, 0)), [((0, 1), (0, 1))])
        self.assertEqual(ladder(ground, (0, 1, 2), (0, 3, 0)), [((0, 1), (2,)), ((3, 1), (0, 1, 2))])

    def test_least_and_greatest_gains_and_costs(self):
        ground = Ground(((), (0,)))
        self.assertEqual(rates(ground, (0, 9), (50, 50)), ((100, 9), (100, 9)))
        self.assertEqual(rates(ground, (9, 1), (0, 50)), ((0, 1), (50, 1)))
        for gains in ((0, 10), (-1, 0), (0,), (0, True)):
            for function in (rates, ladder, layers):
                with self.assertRaises(errors.BadGains):
                    function(ground, gains, (51, 0))
        for costs in ((0, 51), (-1, 0), (0,), (0, True)):
            for function in (rates, ladder, layers):
                with self.assertRaises(errors.BadCosts):
                    function(ground, (0, 9), costs)


class LadderTest(unittest.TestCase):
    def test_rates_of_the_blocks_ascend(self):
        for covers, gains, costs in cases():
            told = ladder(Ground(covers), gains, costs)
            found = {rate for rate in plain.rates_of(covers, gains, costs) if rate is not None}
            self.assertEqual([rate for rate, _ in told], [plain.pair(rate) for rate in sorted(found)])
            self.assertTrue(len(told) <= len(covers))

    def test_rates_ascend_as_numbers(self):
        ground = Ground(((), (), ()))
        self.assertEqual(ladder(ground, (9, 1, 2), (10, 2, 1)), [((1, 2), (2,)), ((10, 9), (0, 2)),
                                                                 ((2, 1), (0, 1, 2))])
        self.assertEqual(layers(ground, (2, 3, 1), (1, 1, 0)), [((0, 1), (2,)), ((1, 3), (1,)), ((1, 2), (0,))])

    def test_pits_are_the_least_best_just_above(self):
        for covers, gains, costs in cases():
            prices = plain.crossings(covers, gains, costs)
            for rate, pit in ladder(Ground(covers), gains, costs):
                rate = plain.fraction_of(rate)
                above = [price for price in prices if price > rate]
                between = (rate + above[0]) / 2 if above else rate + 1
                self.assertEqual(pit, plain.least_best_at(covers, gains, costs, between))

    def test_layers_have_the_blocks_of_each_rate(self):
        for covers, gains, costs in cases():
            told = rates(Ground(covers), gains, costs)
            found = layers(Ground(covers), gains, costs)
            self.assertEqual([rate for rate, _ in found], [rate for rate, _ in ladder(Ground(covers), gains, costs)])
            for rate, lot in found:
                self.assertEqual(lot, tuple(block for block in range(len(covers)) if told[block] == rate))

    def test_rate_of_a_layer_is_its_costs_by_its_gains(self):
        for covers, gains, costs in cases():
            for rate, lot in layers(Ground(covers), gains, costs):
                self.assertEqual(plain.fraction_of(rate), Fraction(plain.worth(costs, lot), plain.worth(gains, lot)))

    def test_a_cheaper_cost_raises_no_rate(self):
        dice = Random(101)
        for covers, gains, costs in cases(2):
            block = dice.randrange(len(covers))
            cheaper = costs[:block] + (costs[block] // 2,) + costs[block + 1:]
            for one, other in zip(rates(Ground(covers), gains, costs), rates(Ground(covers), gains, cheaper)):
                self.assertIs(one is None, other is None)
                self.assertTrue(one is None or plain.fraction_of(other) <= plain.fraction_of(one))

    def test_at_a_rate_the_least_best_pit_lacks_its_layer(self):
        for covers, gains, costs in cases(2):
            ground, ahead = Ground(covers), ()
            for rate, pit in ladder(ground, gains, costs):
                if max(rate) <= 10 ** 6:
                    self.assertEqual(best_at(ground, gains, costs, rate)[1], ahead)
                    self.assertTrue(set(best_at(ground, gains, costs, rate)[2]) >= set(pit))
                ahead = pit

    def test_grounds_side_by_side(self):
        dice = Random(102)
        for one, other in zip(plain.SMALL, plain.SMALL[3:]):
            if len(one) + len(other) <= 10:
                many = len(one)
                both = one + tuple(tuple(first + many for first in firsts) for firsts in other)
                gains, costs = plain.some_gains_and_costs(dice, len(both))
                told = {}
                for rate, lot in layers(Ground(one), gains[:many], costs[:many]):
                    told[rate] = lot
                for rate, lot in layers(Ground(other), gains[many:], costs[many:]):
                    told[rate] = told.get(rate, ()) + tuple(block + many for block in lot)
                self.assertEqual(dict(layers(Ground(both), gains, costs)), told)


class YearsTest(unittest.TestCase):
    def test_by_all_pits(self):
        dice = Random(103)
        for covers, gains, costs in cases(1):
            growths = tuple(dice.choice((0, 0, 1, 3, 9)) for _ in covers)
            price, years = dice.choice(((0, 1), (1, 1), (2, 3), (1, 9), (7, 2))), dice.randint(0, 4)
            told = []
            for year in range(years + 1):
                grown = [gain + year * growth for gain, growth in zip(gains, growths)]
                told.append(plain.least_best_at(covers, grown, costs, plain.fraction_of(price)))
            self.assertEqual(pits_by_year(Ground(covers), gains, costs, price, growths, years), told)
            for one, other in zip(told, told[1:]):
                self.assertTrue(set(one) <= set(other))

    def test_gains_grow_above_9(self):
        ground = Ground(((),))
        told = pits_by_year(ground, (9,), (50,), (1, 1), (9,), 20)
        self.assertEqual(told, [()] * 5 + [(0,)] * 16)
        self.assertEqual(pits_by_year(ground, (0,), (50,), (1, 3), (9,), 20), [()] * 17 + [(0,)] * 4)

    def test_years(self):
        for years in (0, 1, 20):
            told = pits_by_year(GROUND, GAINS, COSTS, (2, 1), (0, 0, 1, 0), years)
            self.assertEqual(len(told), years + 1)
            self.assertEqual(told[0], (1, 3))
        for years in (21, -1, True, None, "1", (1,), 10 ** 400):
            with self.assertRaises(errors.BadYears):
                pits_by_year(GROUND, GAINS, COSTS, (2, 1), (0, 0, 1, 0), years)

    def test_growths(self):
        for growths in ((0, 0, 0, 0), (9, 9, 9, 9)):
            pits_by_year(GROUND, GAINS, COSTS, (2, 1), growths, 3)
        for growths in ((10, 0, 0, 0), (0, 0, 0, -1), (0, 0, 0), (0,) * 5, (0, 0, 0, True), [0] * 4, None, 0):
            with self.assertRaises(errors.BadGrowths):
                pits_by_year(GROUND, GAINS, COSTS, (2, 1), growths, 21)
            with self.assertRaises(errors.BadPrice):
                pits_by_year(GROUND, GAINS, COSTS, (2, 2), growths, 21)


if __name__ == "__main__":
    unittest.main()
