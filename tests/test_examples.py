"""The examples of the interface, as the document shows them."""

import unittest

EXAMPLES = r"""
>>> from pitlots.grounds import Ground, cover, levels, needers, renamed
>>> ground = Ground(((), (), (0, 1), (1,)))
>>> [ground.covers, len(ground), cover(ground, 2), needers(ground, 1), levels(ground), renamed(ground, (1, 3, 0, 2)).covers]
[((), (), (0, 1), (1,)), 4, (0, 1), (2, 3), (0, 0, 1, 1), ((), (0,), (), (0, 2))]
>>> Ground(((), (1,)))
raises BadCovers(index=1)

>>> from pitlots.chains import chain, shows_chain
>>> from pitlots.grounds import Ground
>>> ground = Ground(((), (0,), (0, 1)))
>>> [chain(ground, 2, 0), chain(ground, 0, 2), chain(ground, 1, 1), shows_chain(ground, 2, 0, (2, 1, 0)), shows_chain(ground, 2, 0, (2, 0, 0))]
[(2, 0), None, (1,), True, False]

>>> from pitlots.grounds import Ground
>>> from pitlots.pits import all_pits, greatest_pit, is_pit, last_blocks, least_pit, next_blocks
>>> ground = Ground(((), (), (0, 1), (1,)))
>>> [all_pits(ground), is_pit(ground, (0, 2))]
[[(), (0,), (1,), (0, 1), (1, 3), (0, 1, 2), (0, 1, 3), (0, 1, 2, 3)], False]
>>> [least_pit(ground, (2,)), greatest_pit(ground, (0,)), next_blocks(ground, (1,)), last_blocks(ground, (0, 1, 3))]
[(0, 1, 2), (1, 3), [0, 3], [0, 3]]
>>> next_blocks(ground, (3,))
raises NotPit()

>>> from pitlots.grounds import Ground
>>> from pitlots.worths import all_best, best_worth, fates, greatest_best, least_best, with_block, without_block, worth_of
>>> ground = Ground(((), (), (0, 1), (1,)))
>>> [best_worth(ground, (-2, -3, 4, 2)), all_best(ground, (-2, -3, 4, 2)), worth_of(ground, (-2, -3, 4, 2), (0, 2))]
[1, [(0, 1, 2, 3)], 2]
>>> [all_best(ground, (-2, -3, 4, 1)), least_best(ground, (-2, -3, 4, 1)), greatest_best(ground, (-2, -3, 4, 1)), fates(ground, (2, -3, 1, 1))]
[[(), (0, 1, 2, 3)], (), (0, 1, 2, 3), ('must', 'never', 'never', 'never')]
>>> [with_block(ground, (-2, -3, 4, 2), 3), without_block(ground, (-2, -3, 4, 2), 3)]
[1, 0]

>>> from pitlots.grounds import Ground
>>> from pitlots.payments import are_payments, payments, shows_best, shows_verdict, verdict
>>> ground, worths = Ground(((), (), (0, 1), (1,))), (-2, -3, 4, 2)
>>> [sum([many for one, other, many in payments(ground, worths)]), payments(ground, (-2, -1, 1, 0)) in [((2, 0, 1),), ((2, 1, 1),)]]
[5, True]
>>> [shows_best(ground, worths, (0, 1, 2, 3), ((2, 0, 2), (2, 1, 2), (3, 1, 1))), are_payments(ground, worths, ((3, 0, 1),)), verdict(ground, worths, ())]
[True, False, ('better', (0, 1, 2, 3))]
>>> [shows_verdict(ground, worths, (0, 1, 2, 3), verdict(ground, worths, (0, 1, 2, 3))), verdict(ground, (1, -1, 0, 0), (0,)), shows_verdict(ground, worths, (0,), ("better", ()))]
[True, ('best', ()), True]

>>> from pitlots.grounds import Ground
>>> from pitlots.prices import best_at, dearest, price_for, worth_at
>>> ground, gains, costs = Ground(((), (), (0, 1), (1,))), (0, 0, 2, 3), (6, 3, 1, 0)
>>> [worth_at(ground, gains, costs, (2, 1), (0, 1, 2)), best_at(ground, gains, costs, (2, 1)), best_at(ground, gains, costs, (1, 1))]
[(-6, 1), ((3, 1), (1, 3), (1, 3)), ((0, 1), (), (1, 3))]

>>> from pitlots.grounds import Ground
>>> from pitlots.prices import dearest, price_for
>>> ground, gains, costs = Ground(((), (), (0, 1), (1,))), (0, 0, 2, 3), (6, 3, 1, 0)
>>> [price_for(ground, gains, costs, 4), price_for(ground, (0, 0, 0, 0), costs, 1), dearest(ground, gains, costs, (2, 1), 1)]
[(7, 3), None, 6]

>>> from pitlots.grounds import Ground
>>> from pitlots.ladders import ladder, layers, pits_by_year, rates
>>> ground, gains, costs = Ground(((), (), (0, 1), (1,))), (0, 0, 2, 3), (6, 3, 1, 0)
>>> [rates(ground, gains, costs), ladder(ground, gains, costs), layers(ground, gains, costs)]
[((7, 2), (1, 1), (7, 2), (1, 1)), [((1, 1), (1, 3)), ((7, 2), (0, 1, 2, 3))], [((1, 1), (1, 3)), ((7, 2), (0, 2))]]

>>> from pitlots.grounds import Ground
>>> from pitlots.ladders import pits_by_year
>>> ground, gains, costs = Ground(((), (), (0, 1), (1,))), (0, 0, 2, 3), (6, 3, 1, 0)
>>> pits_by_year(ground, gains, costs, (2, 1), (0, 0, 1, 0), 3)
[(1, 3), (1, 3), (0, 1, 2, 3), (0, 1, 2, 3)]

>>> from pitlots.grounds import Ground
>>> from pitlots.sharings import paid_at, sharing, shows_sharing
>>> ground, gains, costs = Ground(((), (), (0, 1), (1,))), (0, 0, 2, 3), (6, 3, 1, 0)
>>> value = ((None, None, (7, 2), (1, 1)), ((2, 0, (6, 1)), (2, 2, (1, 1)), (3, 1, (3, 1))))
>>> [sharing(ground, gains, costs) == value, shows_sharing(ground, gains, costs, value), shows_sharing(ground, gains, costs, (value[0], value[1][1:]))]
[True, True, False]

>>> from pitlots.grounds import Ground
>>> from pitlots.sharings import paid_at, sharing
>>> ground, gains, costs = Ground(((), (), (0, 1), (1,))), (0, 0, 2, 3), (6, 3, 1, 0)
>>> paid_at(ground, gains, costs, sharing(ground, gains, costs), (2, 1))
((2, 0, (24, 7)), (2, 2, (4, 7)), (3, 1, (3, 1)))

>>> from pitlots.grounds import Ground
>>> from pitlots.rows import count_rows, place_of, row_at
>>> ground = Ground(((), (), (0, 1), (1,)))
>>> [count_rows(ground, (0, 1, 2, 3)), row_at(ground, (0, 1, 2, 3), 0), row_at(ground, (0, 1, 2, 3), 4), place_of(ground, (0, 1, 2, 3), (1, 0, 3, 2))]
[5, (0, 1, 2, 3), (1, 3, 0, 2), 3]
>>> row_at(ground, (0, 1), 2)
raises BadPlace()

>>> from pitlots.grounds import Ground
>>> from pitlots.purses import first_paid, least_purse, purse_paper, shows_purse
>>> ground, worths = Ground(((), (), (0, 1), (1,))), (-4, -3, 9, 2)
>>> [least_purse(ground, worths, (0, 1, 2, 3)), first_paid(ground, worths, (0, 1, 2, 3), 5), first_paid(ground, worths, (0, 1, 2, 3), 4), first_paid(ground, worths, (0, 1, 2), 7)]
[5, (1, 3, 0, 2), None, (0, 1, 2)]
>>> [shows_purse(ground, worths, (0, 1, 2, 3), 5, purse_paper(ground, worths, (0, 1, 2, 3))), shows_purse(ground, worths, (0, 1, 2, 3), 4, ((0,), (0, 1))), purse_paper(ground, (0, 0, 0, 0), (0,))]
[True, False, None]

>>> from pitlots.grounds import Ground
>>> from pitlots.rounds import best_rounds, fewest_rounds, highest_first, round_count, round_span
>>> ground = Ground(((), (), (0, 1), (1,)))
>>> [fewest_rounds(ground, (0, 1, 2, 3), 2), fewest_rounds(ground, (0, 1, 2, 3), 1), round_count(ground, (0, 1, 2, 3), 2, best_rounds(ground, (0, 1, 2, 3), 2)), round_count(ground, (0, 1), 2, ((1,), (0,)))]
[2, 4, 2, 2]
>>> [round_span(ground, (0, 1, 2, 3), 2, 3, 3), round_span(ground, (0, 1, 2, 3), 2, 2, 0), round_span(ground, (0, 1, 2, 3), 2, 1, 0), highest_first(ground, (0, 1, 2, 3), 1)]
[(2, 3), (1, 1), None, ((0,), (1,), (2,), (3,))]

>>> from pitlots.grounds import Ground
>>> from pitlots.twins import are_pairs, best_pairs, most_pairs
>>> ground = Ground(((), (), (0, 1), (1,)))
>>> [most_pairs(ground, (0, 1, 2, 3)), best_pairs(ground, (0, 1)), are_pairs(ground, (0, 1, 2, 3), ((0, 1), (2, 3))), are_pairs(ground, (0, 1, 2, 3), ((0, 2),))]
[2, ((0, 1),), True, False]

>>> from pitlots.arms import arms_behind, arms_count, arms_next, arms_pits, arms_stuck, arms_whole
>>> from pitlots.grounds import Ground
>>> ground, arms = Ground(((), (0,), (0,))), ((("dig", 0), ("wait", 1)), (("stand", 0), ("leave",), ("dig", 1)))
>>> [arms_behind(ground, arms, (1, 1, 0)), arms_next(ground, arms, ()), arms_next(ground, arms, (1,)), arms_whole(ground, arms), arms_count(ground, arms)]
[((0,), (1, 2), (None, None)), [0, 1], [1], (1, 1, 0, 1, 0), 1]
>>> [arms_stuck(ground, arms), arms_pits(ground, arms)]
[(0,), [(), (0,), (0, 1)]]
>>> arms_behind(ground, arms, (1, 0))
raises BadTurns(index=1)

>>> from pitlots.grounds import Ground
>>> from pitlots.periods import best_by_when, copies, worth_by_when
>>> ground, periods = Ground(((), (0,))), ((-3, 5), (-1, 5))
>>> [best_by_when(ground, periods), worth_by_when(ground, periods, ((0,), (0, 1))), worth_by_when(ground, periods, ((0, 1), (0,)))]
[(4, ((), (0, 1))), 2, None]
>>> [copies(ground, periods)[0].covers, copies(ground, periods)[1]]
[((), (0,), (0,), (1, 2)), (-1, 5, -2, 0)]
>>> best_by_when(ground, ((0, 0), (0,)))
raises BadPeriods(index=1)

>>> from pitlots.slopes import Table, as_pit, as_profile, block_at, cell_of, count_profiles, ground_of, is_profile
>>> table = Table((2, 3, 1), ((1, 1), (2, 1)))
>>> [block_at(table, 1, 3), cell_of(table, 4), ground_of(table).covers]
[5, (1, 2), ((), (), (), (0, 1), (0, 1), (2, 3, 4))]

>>> from pitlots.slopes import Table, all_profiles, as_pit, as_profile, count_profiles, is_profile
>>> table = Table((2, 3, 1), ((1, 1), (2, 1)))
>>> [count_profiles(table), all_profiles(table)[-3:], as_pit(table, (1, 2, 1)), as_profile(table, (0, 1, 2)), is_profile(table, (2, 0, 0))]
[15, [(2, 2, 0), (2, 2, 1), (2, 3, 1)], (0, 1, 2, 4), (1, 1, 1), False]

>>> from pitlots.depths import deepest, holder, shallowest, slack
>>> from pitlots.slopes import Table
>>> table = Table((2, 3, 1), ((1, 1), (2, 1)))
>>> [deepest(table, (2, 3, 0)), holder(table, (2, 3, 0), 0), shallowest(table, (0, 3, 0)), slack(table, 0, 2), slack(table, 2, 0)]
[(2, 2, 0), 0, (2, 3, 1), 3, 2]

>>> from pitlots.depths import deepened, held_by, open_columns, ridges
>>> from pitlots.slopes import Table
>>> table = Table((2, 3, 1), ((1, 1), (2, 1)))
>>> [open_columns(table, (1, 2, 0)), held_by(table, (1, 2, 0), 1), ridges(table, (1, 2, 0)), deepened(table, (0, 1, 0), 1)]
[[0, 2], [0, 2], [0, 2], (1, 2, 0)]

>>> from pitlots.depths import between, flattest, is_flatter
>>> from pitlots.slopes import Table
>>> table = Table((2, 3, 1), ((1, 1), (2, 1)))
>>> [flattest(table, [(0, 2, 0)]).rules, is_flatter(table, flattest(table, [(0, 2, 0)])), between(table, (None, 2, None)), between(table, (0, 2, None))]
[((1, 2), (2, 1)), True, ((1, 2), (2, 2), (0, 1)), None]

>>> from pitlots.depths import best_profile
>>> from pitlots.slopes import Table
>>> table = Table((2, 3, 1), ((1, 1), (2, 1)))
>>> best_profile(table, ((-1, 0), (-2, 1, 3), (-1,)))
(0, (0, 0, 0), (2, 3, 1))

>>> from pitlots.grounds import Ground
>>> from pitlots.refills import best_after, best_refill, can_refill, greatest_plan, least_after, least_plan, plan_worth
>>> ground = Ground(((), (0,), (0,)))
>>> [can_refill(ground, (0, 1, 2), (0,)), can_refill(ground, (0, 1, 2), (1, 2)), plan_worth(ground, (-4, 3, 2), (2, -1, 0), (0, 1, 2), (0, 1))]
[False, True, 1]
>>> [best_refill(ground, (-4, 3, 2), (2, -1, 0)), least_plan(ground, (-4, 3, 2), (2, -1, 0)), greatest_plan(ground, (-4, 3, 2), (2, -1, 0))]
[2, ((0, 1, 2), ()), ((0, 1, 2), ())]
>>> [best_after(ground, (-4, 1, -3), (2, 0, 0), (0,)), least_after(ground, (-4, 1, -3), (2, 0, 0), (0,))]
[3, ((0, 1), ())]

>>> from pitlots.doubling import as_pit, doubled, doubled_worths, of_pit
>>> from pitlots.grounds import Ground
>>> ground = Ground(((), (0,)))
>>> [doubled(ground).covers, doubled_worths(ground, (-4, 3), (2, -1)), as_pit(ground, (0, 1), (0,)), of_pit(ground, (0, 1, 2))]
[((), (0,), (0,), (1, 2)), (-2, -2, 2, 1), (0, 1, 2), ((0, 1), (0,))]
>>> of_pit(ground, (1,))
raises NotPit()

>>> from pitlots.changes import back_row, back_worth, best_from, least_from, never_begun, regret
>>> from pitlots.grounds import Ground
>>> ground = Ground(((), (0,), (0,)))
>>> [best_from(ground, (-4, 1, 2), (0,)), least_from(ground, (-4, 1, 2), (0,)), regret(ground, (-4, 1, 2), (0,)), never_begun(ground, (-4, 1, 2), (0,))]
[-1, (0, 1, 2), 1, (0,)]
>>> [back_row(ground, (0, 1), (0, 2)), back_row(ground, (0, 1), ()), back_worth(ground, (-4, 1, 2), (0, 5, 0), (0, 1), (0, 2))]
[(('dig', 2), ('fill', 1)), (('fill', 1), ('fill', 0)), 7]

>>> from pitlots.bounds import fates_whatever, is_possible, is_sure, possible_pits, shows_sure, sure_pits, sure_verdict
>>> from pitlots.grounds import Ground
>>> ground, wide, good = Ground(((), (0,))), ((-3, -1), (2, 4)), ((-3, -1), (4, 5))
>>> [is_sure(ground, wide, (0, 1)), is_possible(ground, wide, (0, 1)), possible_pits(ground, wide), sure_pits(ground, wide), fates_whatever(ground, wide)]
[False, True, [(), (0, 1)], [], ('may', 'may')]
>>> [sure_pits(ground, good), fates_whatever(ground, good), sure_verdict(ground, good, (0, 1)), shows_sure(ground, good, (0, 1), ("sure", ((1, 0, 3),)))]
[[(0, 1)], ('must', 'must'), ('sure', ((1, 0, 3),)), True]
>>> [shows_sure(ground, wide, (), sure_verdict(ground, wide, ())), shows_sure(ground, wide, (), ("case", (-1, 4), (0, 1))), shows_sure(ground, wide, (), ("case", (-1, 5), (0, 1)))]
[True, True, False]
>>> is_sure(ground, ((-3, -1), (4, 3)), ())
raises BadBounds(index=1)

>>> from pitlots.choices import count_cases, known_best, least_regret, worst_regret
>>> from pitlots.grounds import Ground
>>> ground, choices = Ground(((), (0,))), ((-3, -1), (2, 4))
>>> [count_cases(ground, choices), known_best(ground, choices), known_best(ground, ((-1,), (2, 4))), worst_regret(ground, choices, ()), least_regret(ground, choices)]
[4, None, (0, 1), 3, (1, (0, 1))]

>>> from pitlots.grounds import Ground
>>> from pitlots.probing import best_probe, fewest_probes, probe_plan, shows_probe_plan
>>> ground, choices = Ground(((), (0,))), ((-3, -1), (2, 4))
>>> [fewest_probes(ground, choices), best_probe(ground, choices), probe_plan(ground, ((-1,), (2, 4))), best_probe(ground, ((-1,), (2, 4)))]
[2, 0, ('dig', (0, 1)), None]
>>> [shows_probe_plan(ground, choices, 2, probe_plan(ground, choices)), shows_probe_plan(ground, choices, 1, probe_plan(ground, choices)), shows_probe_plan(ground, ((-1,), (2, 4)), 0, ("dig", ()))]
[True, False, False]

>>> from pitlots.grounds import Ground
>>> from pitlots.probelogs import first_against, left_by
>>> ground, choices = Ground(((), (0,))), ((-3, -1), (2, 4))
>>> [left_by(ground, choices, (("told", 0, -3), ("changed", 1, 9))), left_by(ground, choices, (("told", 0, 0),)), first_against(ground, choices, (("changed", 0, 5), ("told", 0, -3)))]
[((-3,), (9,)), None, 1]
>>> left_by(ground, choices, (("told", 0, -3), ("told", 2, 4)))
raises BadProbes(index=1)

>>> from pitlots.grounds import Ground
>>> from pitlots.knowing import knowing, knowing_block, sum_known, sum_unknown
>>> ground, choices = Ground(((), (0,))), ((-3, -1), (2, 4))
>>> [sum_known(ground, choices), sum_unknown(ground, choices), knowing(ground, choices), knowing_block(ground, choices, 0), knowing_block(ground, ((-9, -1), (2, 4)), 0)]
[5, 4, 1, 0, 4]

>>> from pitlots.grounds import Ground
>>> from pitlots.leases import bend, gain_of, own_pit
>>> ground, worths, owners = Ground(((), (), (0, 1), (1,))), (-2, -3, 8, 4), (0, 0, 1, 2)
>>> [gain_of(ground, worths, owners, (0, 1)), gain_of(ground, worths, owners, (1, 2)), own_pit(ground, worths, owners, (0, 2)), bend(ground, worths, owners, (0, 1), (0, 2))]
[3, 0, (1, 3), 3]

>>> from pitlots.grounds import Ground
>>> from pitlots.splits import all_splits, blocker, by_order, greatest_share, holds_for, least_share
>>> ground, worths, owners = Ground(((), (), (0, 1), (1,))), (-2, -3, 8, 4), (0, 0, 1, 2)
>>> [by_order(ground, worths, owners, (0, 1, 2, 3)), holds_for(ground, worths, owners, (0, 3, 4, 0)), blocker(ground, worths, owners, (0, 2, 5, 0))]
[(0, 3, 4, 0), True, (0, 1)]
>>> [least_share(ground, worths, owners, 1), greatest_share(ground, worths, owners, 1), len(all_splits(ground, worths, owners))]
[0, 6, 29]

>>> from pitlots.grounds import Ground
>>> from pitlots.joins import agreeing_pits, best_pair, join_worth, joined, places
>>> one, other = Ground(((), (0,))), Ground(((), (), (0, 1)))
>>> [joined(one, other, ((0, 2),)).covers, places(one, other, ((0, 2),))]
[((), (), (0, 1), (2,)), ((2, 3), (0, 1, 2))]
>>> [agreeing_pits(one, other, ((0, 1),)), join_worth(one, other, ((0, 1),), (-2, 5), (-1, -1, 3)), best_pair(one, other, ((0, 1),), (-2, 5), (-1, -1, 3))]
[[((), ()), ((0,), (1,)), ((), (0,)), ((0, 1), (1,)), ((0,), (0, 1)), ((0, 1), (0, 1)), ((0,), (0, 1, 2)), ((0, 1), (0, 1, 2))], 4, ((0, 1), (0, 1, 2))]
>>> joined(one, one, ((0, 1), (1, 0)))
raises BadJoin()

>>> from pitlots.drawings import alike, drawn, drawn_to, parted, pits_with
>>> from pitlots.grounds import Ground
>>> ground = Ground(((), (), (0, 1), (1,)))
>>> [[part.covers for part in parted(ground, (0, 1))], drawn(ground, (0, 3)).covers, drawn_to(ground, (0, 3)), pits_with(ground, (0, 3))]
[[((), ()), ((), ())], ((), (0,), (0, 1)), (1, 0, 2, 1), [(), (1,), (0, 1, 3), (0, 1, 2, 3)]]
>>> [alike(ground, Ground(((), (0,), (), (0, 2)))), alike(ground, Ground(((), (0,), (0,), (0, 2))))]
[(1, 3, 0, 2), None]
>>> drawn(Ground(((), (0,), (1,))), (0, 2))
raises NotTogether()

>>> from pitlots.diglogs import count_digs, digs_of, first_against, fits, maybe_dug, pits_behind, surely_dug
>>> from pitlots.grounds import Ground
>>> ground = Ground(((), (), (0,), (0, 1)))
>>> log = (("dug", 0), ("lost",), ("not", 3), ("lost",))
>>> [digs_of(ground, log), count_digs(ground, log), fits(ground, (0, 1, 3), log), fits(ground, (1, 0, 2), log)]
[[(0, 1, 2), (0, 1, 3), (0, 2, 1)], 3, True, False]
>>> [pits_behind(ground, log), surely_dug(ground, log), maybe_dug(ground, log), first_against(ground, log + (("dug", 0),))]
[[(0, 1, 2), (0, 1, 3)], (0, 1), (0, 1, 2, 3), 4]

>>> from pitlots.grounds import Ground
>>> from pitlots.logmends import doubted, mended
>>> ground = Ground(((), (), (0,), (0, 1)))
>>> [doubted(ground, (("dug", 2), ("dug", 0), ("is", 2))), mended(ground, (("dug", 2), ("dug", 0), ("is", 2))), doubted(ground, (("lost",),) * 5)]
[(0, 1), (0, 2), None]

>>> from pitlots.grounds import Ground
>>> from pitlots.hauls import loads, may_lie, recalled, shows_way, spoilt, spoilt_range, way_to
>>> ground = Ground(((), (), (0,), (0, 1)))
>>> hauls = (("put", 0, 0), ("put", 1, 0), ("move", 0, 4, 1), ("put", 3, 0), ("move", 0, 1, 2))
>>> [loads(ground, hauls), may_lie(ground, hauls, 0), may_lie(ground, hauls, 3), may_lie(ground, hauls, 2), recalled(ground, hauls, (0, 3))]
[(0, 2, 0, 0, 1), (1, 4), (1,), (), (1, 4)]
>>> [spoilt(ground, hauls, (0,)), spoilt(ground, hauls, (0, 3)), spoilt_range(ground, hauls, (0, 3), 1), way_to(ground, hauls, 0, 4), shows_way(ground, hauls, 0, (0, 0, 0, 0, 1))]
[(), (1,), (1, 2), (0, 0, 4, 4, 4), True]

>>> from pitlots.grounds import Ground
>>> from pitlots.texts import read, write
>>> write(Ground(((), (0,))), (5, -3))
'block 0 worth 5\nblock 1 worth -3 needs 0'
>>> [read(" block 0  worth 7 ")[0] == Ground(((),)), read("block 0 worth 7")[1]]
[True, (7,)]
>>> read("block 0 worth 1\nblock 1 worth 2 needs 1")
raises InvalidText(line=2, word=6)

>>> from pitlots.desk import Desk
>>> from pitlots.grounds import Ground
>>> desk = Desk(Ground(((), (), (0,))), (-2, 1, 5))
>>> [desk.best(), desk.dig(1), desk.set_worth(2, 1), desk.best(), desk.own_pit, desk.own_log, len(desk)]
[4, None, None, 1, (1,), (('dug', 1),), 2]
>>> [desk.undo(), desk.best(), desk.redo(), desk.redo(), desk.add_need(2, 1), desk.own_ground.covers]
[True, 4, True, False, None, ((), (), (0, 1))]

>>> from pitlots.averages import average_split, shares_hold
>>> from pitlots.grounds import Ground
>>> ground, worths, owners = Ground(((), (), (0, 1), (1,))), (-2, -3, 8, 4), (0, 0, 1, 2)
>>> [average_split(ground, worths, owners), shares_hold(ground, worths, owners, ((7, 2), (3, 1), (1, 2), (0, 1)))]
[((3, 1), (5, 2), (3, 2), (0, 1)), True]
>>> [shares_hold(ground, worths, owners, ((0, 1), (2, 1), (5, 1), (0, 1))), shares_hold(ground, worths, owners, (0, 3, 4, 0))]
[False, False]

>>> from pitlots.fairness import fair_ladder, fair_split, first_unfair, spare, tight_parties
>>> from pitlots.grounds import Ground
>>> ground, worths, owners = Ground(((), (), (0, 1), (1,))), (-2, -3, 8, 4), (0, 0, 1, 2)
>>> [fair_split(ground, worths, owners), fair_ladder(ground, worths, owners)]
[((7, 3), (7, 3), (7, 3), (0, 1)), [((7, 3), (0, 1, 2)), ((0, 1), (3,))]]
>>> some = ((4, 1), (3, 1), (0, 1), (0, 1))
>>> [spare(ground, worths, owners, some, 0, 2), spare(ground, worths, owners, some, 2, 0), first_unfair(ground, worths, owners, some)]
[(4, 1), (0, 1), (0, 1)]
>>> tight_parties(ground, worths, owners, ((0, 1), (3, 1), (4, 1), (0, 1)))
[(), (0,), (3,), (0, 1), (0, 3), (0, 1, 2), (0, 1, 3), (0, 1, 2, 3)]
"""


def answer_of(line, names):
    """What a line of an example gives, as the document shows it; None for one that gives nothing."""
    try:
        code = compile(line, "example", "eval")
    except SyntaxError:
        exec(line, names)
        return None
    try:
        return repr(eval(code, names))
    except ValueError as error:
        fields = ", ".join(f"{name}={value!r}" for name, value in vars(error).items())
        return f"raises {error.__class__.__name__}({fields})"


class ExamplesTest(unittest.TestCase):
    def test_all(self):
        asked = 0
        for example in EXAMPLES.strip().split("\n\n"):
            names, lines = {}, example.splitlines()
            for place, line in enumerate(lines):
                if line.startswith(">>> "):
                    answer = answer_of(line[4:], names)
                    with self.subTest(line):
                        if answer is not None:
                            asked += 1
                            self.assertEqual(answer, lines[place + 1])
        self.assertEqual(asked, sum(not line.startswith(">>>") for line in EXAMPLES.splitlines() if line))


if __name__ == "__main__":
    unittest.main()
