"""What pits are worth at prices, by the gains and the costs of their blocks."""

from pitlots.checks import GREATEST_COST, check_gains_and_costs, check_lot, check_price
from pitlots.errors import BadTarget
from pitlots.grounds import check_block
from pitlots.masks import best_masks, common_mask, joint_mask, lot_of, mask_of
from pitlots.masks import most_with, most_without, pit_sums, sum_of
from pitlots.ratios import least_fraction, reduced
from pitlots.values import is_between

GREATEST_TARGET = 500


def scaled_worths(gains, costs, price):
    """The worths of all blocks at a price, each times what stands beneath in the price."""
    above, beneath = price
    return [gain * above - cost * beneath for gain, cost in zip(gains, costs)]


def worth_at(ground, gains, costs, price, lot):
    """What a lot is worth at a price, a fraction."""
    check_gains_and_costs(ground, gains, costs)
    check_price(price)
    check_lot(ground, lot)
    return reduced(sum_of(scaled_worths(gains, costs, price), mask_of(lot)), price[1])


def best_at(ground, gains, costs, price):
    """The tuple (worth, least, greatest): what the best pits at a price are worth, the least and the greatest one."""
    check_gains_and_costs(ground, gains, costs)
    check_price(price)
    worths = scaled_worths(gains, costs, price)
    best = best_masks(ground.covers, worths)
    return reduced(sum_of(worths, best[0]), price[1]), lot_of(common_mask(best)), lot_of(joint_mask(best))


def price_for(ground, gains, costs, target):
    """The least price at which some pit is worth target or more, None if there is none."""
    check_gains_and_costs(ground, gains, costs)
    if not is_between(target, 0, GREATEST_TARGET):
        raise BadTarget()
    if target == 0:
        return 0, 1
    gained, spent = pit_sums(ground.covers, gains), pit_sums(ground.covers, costs)
    prices = [reduced(spent[pit] + target, gained[pit]) for pit in gained if gained[pit] > 0]
    return least_fraction(prices) if prices else None


def dearest(ground, gains, costs, price, block):
    """The greatest cost of a block by which some best pit at a price would have it, None if there is none."""
    check_gains_and_costs(ground, gains, costs)
    check_price(price)
    check_block(ground, block)
    free = costs[:block] + (0,) + costs[block + 1:]
    sums = pit_sums(ground.covers, scaled_worths(gains, free, price))
    # What a pit with the block is worth more, were the block free, is what the block may cost.
    most = (most_with(sums, block) - most_without(sums, block)) // price[1]
    return None if most < 0 else min(most, GREATEST_COST)
