"""What holds across the parts of the program: points 16, 24, 26, 34, 39, 44, 50, 60, 61 and 66.

Other tests hold each part against slow ways; here the parts are held against one another.
"""

import itertools
import unittest
from fractions import Fraction
from random import Random

from pitlots.arms import arms_count, arms_pits, arms_whole
from pitlots.averages import average_split, shares_hold
from pitlots.bounds import is_possible, is_sure, sure_pits
from pitlots.choices import known_best, worst_regret
from pitlots.depths import best_profile
from pitlots.desk import Desk
from pitlots.diglogs import digs_of, maybe_dug, surely_dug
from pitlots.doubling import doubled, doubled_worths, of_pit
from pitlots.fairness import fair_split, first_unfair, spare, tight_parties
from pitlots.grounds import Ground
from pitlots.hauls import loads, may_lie, recalled, spoilt, spoilt_range, way_to
from pitlots.joins import agreeing_pits, best_pair, join_worth, joined, places
from pitlots.knowing import knowing, knowing_block, sum_known
from pitlots.ladders import ladder, layers, pits_by_year, rates
from pitlots.payments import payments, shows_best
from pitlots.periods import best_by_when, copies, worth_by_when
from pitlots.pits import all_pits
from pitlots.prices import best_at, worth_at
from pitlots.probing import probe_plan
from pitlots.refills import best_refill, greatest_plan, least_plan
from pitlots.rows import count_rows
from pitlots.sharings import sharing, shows_sharing
from pitlots.slopes import Table, all_profiles, as_pit, as_profile, cell_of, ground_of
from pitlots.splits import by_order
from pitlots.texts import read, write
from pitlots.worths import all_best, best_worth, greatest_best, least_best, worth_of
from tests import plain

LOST = ("lost",)
ALL = (0, 1, 2, 3)
FEW = [covers for covers in plain.SMALL if len(covers) <= 5]


def side_by_side(one, other):
    return joined(Ground(one), Ground(other), ())


def is_least_order(pits):
    """Whether each pit of a list lies in the next one."""
    return all(set(one) <= set(other) for one, other in zip(pits, pits[1:]))


def some_fractions(dice):
    prices = [Fraction(dice.randint(0, 30), dice.randint(1, 6)) for _ in range(6)]
    return [plain.pair(price) for price in sorted(prices)]


class PricesTest(unittest.TestCase):
    """Point 16, and what point 61 tells of prices."""

    def cases(self, seed, shapes=plain.MIDDLE):
        dice = Random(seed)
        for covers in shapes:
            yield (dice, covers) + plain.some_gains_and_costs(dice, len(covers))

    def test_greater_prices_have_greater_pits(self):
        for dice, covers, gains, costs in self.cases(16):
            found = [best_at(Ground(covers), gains, costs, price) for price in some_fractions(dice)]
            self.assertTrue(is_least_order([least for _, least, _ in found]))
            self.assertTrue(is_least_order([greatest for _, _, greatest in found]))
            rungs = ladder(Ground(covers), gains, costs)
            self.assertTrue(is_least_order([pit for _, pit in rungs]))
            self.assertTrue(len(rungs) <= len(covers))

    def test_growing_gains_have_greater_pits(self):
        for dice, covers, gains, costs in self.cases(161):
            growths = plain.some_row(dice, len(covers), 0, 3)
            pits = pits_by_year(Ground(covers), gains, costs, (1, 2), growths, 12)
            self.assertTrue(is_least_order(pits))
            self.assertEqual(pits[0], best_at(Ground(covers), gains, costs, (1, 2))[1])

    def test_layers(self):
        for _, covers, gains, costs in self.cases(162):
            for rate, lot in layers(Ground(covers), gains, costs):
                self.assertEqual(plain.fraction_of(rate), Fraction(plain.worth(costs, lot), plain.worth(gains, lot)))

    def test_sharings_have_the_rates(self):
        for _, covers, gains, costs in self.cases(163):
            told = rates(Ground(covers), gains, costs)
            value = sharing(Ground(covers), gains, costs)
            self.assertIs(shows_sharing(Ground(covers), gains, costs, value), True)
            self.assertEqual(value[0], tuple(rate if gain else None for rate, gain in zip(told, gains)))

    def test_a_cheaper_cost_raises_no_rate(self):
        for dice, covers, gains, costs in self.cases(164):
            block = dice.randrange(len(covers))
            cheaper = costs[:block] + (costs[block] // 2,) + costs[block + 1:]
            for rate, less in zip(rates(Ground(covers), gains, costs), rates(Ground(covers), gains, cheaper)):
                self.assertTrue(rate is less is None or plain.fraction_of(less) <= plain.fraction_of(rate))

    def test_two_grounds_side_by_side(self):
        for dice, covers, gains, costs in self.cases(165, FEW):
            other = dice.choice(FEW)
            more_gains, more_costs = plain.some_gains_and_costs(dice, len(other))
            both = {}
            for rate, lot in layers(Ground(covers), gains, costs):
                both.setdefault(rate, []).extend(lot)
            for rate, lot in layers(Ground(other), more_gains, more_costs):
                both.setdefault(rate, []).extend(len(covers) + block for block in lot)
            told = sorted(both.items(), key=lambda layer: plain.fraction_of(layer[0]))
            self.assertEqual(layers(side_by_side(covers, other), gains + more_gains, costs + more_costs),
                             [(rate, tuple(lot)) for rate, lot in told])

    def test_a_whole_price(self):
        asked = 0
        for dice, covers, gains, costs in self.cases(61, plain.MIDDLE * 2):
            ground, price = Ground(covers), dice.randint(0, 9)
            worths = tuple(gain * price - cost for gain, cost in zip(gains, costs))
            if max(worths) > 50:
                continue
            asked += 1
            worth, least, greatest = best_at(ground, gains, costs, (price, 1))
            self.assertEqual(worth, (best_worth(ground, worths), 1))
            self.assertEqual((least, greatest), (least_best(ground, worths), greatest_best(ground, worths)))
            for pit in plain.pits_of(covers)[::4]:
                self.assertEqual(worth_at(ground, gains, costs, (price, 1), pit), (worth_of(ground, worths, pit), 1))
            for pit in (least, greatest):
                self.assertIs(shows_best(ground, worths, pit, payments(ground, worths)), True)
            below = tuple(block for block, rate in enumerate(rates(ground, gains, costs))
                          if rate and plain.fraction_of(rate) < price)
            self.assertEqual(below, least)
            ahead = [pit for rate, pit in ladder(ground, gains, costs) if plain.fraction_of(rate) < price]
            self.assertEqual(ahead[-1] if ahead else (), least)
        self.assertTrue(asked > 30, asked)


class DiggingTest(unittest.TestCase):
    """Points 24, 26 and 34, and what point 61 tells of tables, refills and arms."""

    def test_copies_are_pits_by_periods(self):
        dice = Random(24)
        for covers in FEW:
            ground, many = Ground(covers), dice.randint(1, 10 // len(covers))
            periods = tuple(plain.some_row(dice, len(covers), -25, 25) for _ in range(many))
            copied, worths = copies(ground, periods)
            most, pits = best_by_when(ground, periods)
            self.assertEqual(best_worth(copied, worths), most)
            self.assertEqual(worth_by_when(ground, periods, pits), most)
            # A copy is dug just if its block is dug by the end of its period.
            for pit in plain.pits_of(copied.covers)[::3]:
                aheads = [later * len(covers) for later in reversed(range(many))]
                by_when = tuple(tuple(block for block in range(len(covers)) if ahead + block in pit)
                                for ahead in aheads)
                self.assertEqual(worth_by_when(ground, periods, by_when), worth_of(copied, worths, pit))

    def test_profiles_are_pits(self):
        dice = Random(26)
        for columns, rules in plain.TABLES:
            table = Table(columns, rules)
            ground, profiles = ground_of(table), all_profiles(table)
            self.assertEqual(sorted(as_pit(table, profile) for profile in profiles), sorted(all_pits(ground)))
            self.assertEqual([as_profile(table, as_pit(table, profile)) for profile in profiles], profiles)
            worths = tuple(plain.some_row(dice, many, -3, 3) for many in columns)
            by_block = tuple(worths[column][depth - 1] for column, depth in
                             [cell_of(table, block) for block in range(len(ground))])
            most, least, greatest = best_profile(table, worths)
            self.assertEqual(most, best_worth(ground, by_block))
            self.assertEqual(as_pit(table, least), least_best(ground, by_block))
            self.assertEqual(as_pit(table, greatest), greatest_best(ground, by_block))

    def test_to_dig_and_to_fill_again_is_to_dig_by_two_periods(self):
        dice = Random(34)
        for covers in FEW:
            for width in (1, 4, 12):
                ground, many = Ground(covers), len(covers)
                worths, refills = plain.some_row(dice, many, -width, width), plain.some_row(dice, many, -width, width)
                both = tuple(worth + refill for worth, refill in zip(worths, refills))
                most = best_refill(ground, worths, refills)
                periods = (worths, both)
                self.assertEqual(best_by_when(ground, periods)[0], most)
                for dug, left in (least_plan(ground, worths, refills), greatest_plan(ground, worths, refills)):
                    self.assertEqual(worth_by_when(ground, periods, (left, dug)), most)
                twice, doubled_ones = doubled(ground), doubled_worths(ground, worths, refills)
                self.assertEqual(best_worth(twice, doubled_ones), most)
                self.assertEqual(of_pit(ground, least_best(twice, doubled_ones)), least_plan(ground, worths, refills))

    def test_arms_go_through_the_rows_that_keep_the_order_of_each(self):
        dice, asked = Random(61), 0
        for covers in plain.SMALL * 2:
            pit = dice.choice(plain.pits_of(covers))
            blocks = dice.sample(pit, len(pit))
            if dice.randint(0, 2):
                blocks = list(dice.choice(plain.rows_of(covers, pit)))
            parts = [[block for block in blocks if block % 3 == arm] for arm in range(3)]
            if dice.randint(0, 1):
                parts = [blocks[:3], blocks[3:]]
            arms = tuple(tuple(("dig", block) for block in part) for part in parts)
            rows = [row for row in plain.rows_of(covers, pit)
                    if all([block for block in row if block in part] == part for part in parts)]
            ground = Ground(covers)
            self.assertEqual(arms_count(ground, arms), len(rows))
            turns = sorted(tuple(next(arm for arm, part in enumerate(parts) if block in part) for block in row)
                           for row in rows)
            self.assertEqual(arms_whole(ground, arms), turns[0] if turns else None)
            if len(parts[0]) == len(pit):
                self.assertTrue(len(rows) <= 1)
            if rows:
                asked += 1
                passed = {tuple(sorted(row[:many])) for row in rows for many in range(len(pit) + 1)}
                self.assertTrue(passed <= set(arms_pits(ground, arms)))
        self.assertTrue(asked > 15, asked)

    def test_arms_of_one_block_each_go_through_all_rows(self):
        for covers in FEW:
            for pit in plain.pits_of(covers):
                if len(pit) <= 3:
                    arms = tuple((("dig", block),) for block in pit) or ((),)
                    self.assertEqual(arms_count(Ground(covers), arms), count_rows(Ground(covers), pit))


class BoundsTest(unittest.TestCase):
    """Points 39 and 44, and what point 61 tells of bounds and choices."""

    def test_sure_and_possible_by_one_case(self):
        dice = Random(39)
        for covers in plain.SMALL:
            bounds = tuple(tuple(sorted(plain.some_row(dice, 2, -4, 4))) for _ in covers)
            for pit in plain.pits_of(covers):
                worst = tuple(low if block in pit else high for block, (low, high) in enumerate(bounds))
                best = tuple(high if block in pit else low for block, (low, high) in enumerate(bounds))
                self.assertIs(is_sure(Ground(covers), bounds, pit), pit in all_best(Ground(covers), worst))
                self.assertIs(is_possible(Ground(covers), bounds, pit), pit in all_best(Ground(covers), best))

    def test_a_sure_pit_is_best_by_all_choices(self):
        dice, asked = Random(391), 0
        for covers in plain.SMALL * 3:
            lows = plain.some_worths(dice, len(covers))
            bounds = tuple((low, min(50, low + dice.choice((0, 0, 1, 3)))) for low in lows)
            choices = tuple(tuple(sorted({low, dice.randint(low, high), high})) if dice.randint(0, 1)
                            else (dice.randint(low, high),) for low, high in bounds)
            sure = sure_pits(Ground(covers), bounds)
            asked += bool(sure)
            for pit in sure:
                self.assertEqual(worst_regret(Ground(covers), choices, pit), 0)
                for case in plain.cases_of(choices)[:20]:
                    self.assertIn(pit, all_best(Ground(covers), case))
                self.assertIsNotNone(known_best(Ground(covers), choices))
        self.assertTrue(asked > 15, asked)

    def test_plans_and_what_is_known(self):
        dice = Random(44)
        for covers in plain.SMALL:
            ground, choices = Ground(covers), plain.some_choices(dice, len(covers), 18)
            dug = 0
            for case in plain.cases_of(choices):
                step = probe_plan(ground, choices)
                while step[0] != "dig":
                    step = dict(step[1])[case[step[0]]]
                self.assertIn(step[1], all_best(ground, case))
                dug += worth_of(ground, case, step[1])
            self.assertEqual(dug, sum_known(ground, choices))
            for block, worths in enumerate(choices):
                much = knowing_block(ground, choices, block)
                self.assertTrue(0 <= much <= knowing(ground, choices))
                self.assertTrue(much == 0 or len(worths) > 1)
            if known_best(ground, choices) is not None:
                self.assertEqual(knowing(ground, choices), 0)


class JoinsTest(unittest.TestCase):
    """Point 50."""

    def test_agreeing_pits_are_the_pits_of_the_join(self):
        dice = Random(50)
        for covers in plain.SMALL:
            other = dice.choice(FEW)
            many = dice.randint(max(0, len(covers) + len(other) - 10), min(len(covers), len(other)))
            shared = tuple(zip(range(many), range(many)))
            one, two = Ground(covers), Ground(other)
            ground, (ones, others) = joined(one, two, shared), places(one, two, shared)
            pits = [tuple(sorted({ones[block] for block in pit} | {others[block] for block in more}))
                    for pit, more in agreeing_pits(one, two, shared)]
            self.assertEqual(pits, all_pits(ground))
            worths, more = plain.some_row(dice, len(covers), -9, 9), plain.some_row(dice, len(other), -9, 9)
            amounts = [0] * len(ground)
            for place, worth in list(zip(ones, worths)) + list(zip(others, more)):
                amounts[place] += worth
            self.assertEqual(join_worth(one, two, shared, worths, more), best_worth(ground, tuple(amounts)))
            pair = best_pair(one, two, shared, worths, more)
            self.assertEqual(tuple(sorted({ones[block] for block in pair[0]} | {others[block] for block in pair[1]})),
                             least_best(ground, tuple(amounts)))


class LogsTest(unittest.TestCase):
    """Point 60."""

    def test_the_log_of_a_desk(self):
        dice = Random(60)
        for covers in plain.SMALL * 2:
            desk = Desk(Ground(covers), plain.some_worths(dice, len(covers)))
            for block in dice.choice(plain.digs_of(covers)):
                if dice.randint(0, 4) == 0:
                    for other in range(len(covers)):
                        if desk.own_ground.covers[other]:
                            desk.drop_need(other, desk.own_ground.covers[other][0])
                            break
                desk.dig(block)
                if dice.randint(0, 3) == 0:
                    desk.undo()
                    desk.redo()
                dig = tuple(block for _, block in desk.own_log)
                self.assertEqual(digs_of(desk.own_ground, desk.own_log), [dig])
                self.assertEqual(surely_dug(desk.own_ground, desk.own_log), desk.own_pit)
                self.assertEqual(maybe_dug(desk.own_ground, desk.own_log), desk.own_pit)
                self.assertEqual(read(write(desk.own_ground, desk.own_worths)), (desk.own_ground, desk.own_worths))

    def test_all_on_one_heap(self):
        dice = Random(601)
        for covers in plain.SMALL:
            dig, heap = dice.choice(plain.digs_of(covers)), dice.randrange(5)
            hauls = tuple(("put", block, heap) for block in dig)
            lying = tuple(len(dig) if other == heap else 0 for other in range(5))
            self.assertEqual(loads(Ground(covers), hauls), lying)
            for block in range(len(covers)):
                self.assertEqual(may_lie(Ground(covers), hauls, block), (heap,) if block in dig else ())
            self.assertEqual(spoilt_range(Ground(covers), hauls, tuple(sorted(dig)), heap), (len(dig), len(dig)))

    def test_ways_and_ranges(self):
        dice = Random(602)
        for covers in plain.SMALL * 2:
            ground, hauls = Ground(covers), plain.some_hauls(dice, covers, 10 ** 9)
            for block in range(len(covers)):
                heaps = [heap for heap in range(5) if way_to(ground, hauls, block, heap) is not None]
                self.assertEqual(may_lie(ground, hauls, block), tuple(heaps))
                self.assertEqual(recalled(ground, hauls, (block,)), tuple(heaps))
            for lot in plain.all_lots(covers)[::5]:
                ranges = [spoilt_range(ground, hauls, lot, heap) for heap in range(5)]
                self.assertEqual(recalled(ground, hauls, lot), tuple(h for h in range(5) if ranges[h][1] > 0))
                self.assertEqual(spoilt(ground, hauls, lot), tuple(h for h in range(5) if ranges[h][0] > 0))
                self.assertEqual(recalled(ground, hauls, lot),
                                 plain.together([()] + [may_lie(ground, hauls, block) for block in lot]))


class FairTest(unittest.TestCase):
    """Point 66."""

    def cases(self, seed, shapes=plain.MIDDLE):
        dice = Random(seed)
        for covers in shapes:
            worths = tuple(dice.randint(0, 8) if needs else dice.randint(-4, 2) for needs in covers)
            yield dice, covers, worths, plain.some_owners(dice, len(covers))

    def some_shares(self, dice, covers, worths, owners):
        ground = Ground(covers)
        splits = [by_order(ground, worths, owners, tuple(dice.sample(range(4), 4))) for _ in range(dice.randint(1, 3))]
        shares = [Fraction(sum(split[owner] for split in splits), len(splits)) for owner in range(4)]
        return [tuple(plain.pair(share) for share in shares), average_split(ground, worths, owners),
                fair_split(ground, worths, owners)]

    def test_tight_parties(self):
        for dice, covers, worths, owners in self.cases(66):
            for shares in self.some_shares(dice, covers, worths, owners):
                tight = tight_parties(Ground(covers), worths, owners, shares)
                self.assertTrue(tight[0] == () and tight[-1] == ALL)
                for one, other in itertools.combinations(tight, 2):
                    self.assertIn(plain.common([one, other]), tight)
                    self.assertIn(plain.together([one, other]), tight)

    def test_the_fair_split_is_the_one_with_nothing_to_spare(self):
        seen = {True: 0, False: 0}
        for dice, covers, worths, owners in self.cases(661, plain.MIDDLE * 2):
            ground, fair = Ground(covers), fair_split(Ground(covers), worths, owners)
            for shares in self.some_shares(dice, covers, worths, owners):
                self.assertIs(shares_hold(ground, worths, owners, shares), True)
                self.assertIs(first_unfair(ground, worths, owners, shares) is None, shares == fair)
                tight = tight_parties(ground, worths, owners, shares)
                parted = True
                for one, other in itertools.permutations(range(4), 2):
                    if plain.fraction_of(shares[one]) > plain.fraction_of(shares[other]):
                        barred = any(one in party and other not in party for party in tight)
                        self.assertEqual(spare(ground, worths, owners, shares, one, other) == (0, 1), barred)
                        parted = parted and barred
                self.assertIs(parted, shares == fair)
                seen[parted] += 1
        self.assertTrue(min(seen.values()) > 30, seen)

    def test_owners_without_blocks_share_nothing(self):
        for dice, covers, worths, owners in self.cases(662):
            for shares in self.some_shares(dice, covers, worths, owners):
                for owner in set(range(4)) - set(owners):
                    self.assertEqual(shares[owner], (0, 1))

    def test_averages_of_two_grounds_side_by_side(self):
        for dice, covers, worths, owners in self.cases(663, FEW):
            other = dice.choice(FEW)
            more, others = plain.some_row(dice, len(other), -5, 9), plain.some_owners(dice, len(other))
            both = [average_split(Ground(covers), worths, owners), average_split(Ground(other), more, others)]
            told = [sum(plain.fraction_of(shares[owner]) for shares in both) for owner in range(4)]
            self.assertEqual(average_split(side_by_side(covers, other), worths + more, owners + others),
                             tuple(plain.pair(share) for share in told))


if __name__ == "__main__":
    unittest.main()
