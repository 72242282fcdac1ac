"""What pits are worth, and the pits that are worth most."""

from pitlots.checks import check_lot, check_worths
from pitlots.grounds import check_block
from pitlots.masks import best_masks, common_mask, in_order, joint_mask, lot_of, mask_of
from pitlots.masks import most_with, most_without, pit_sums, sum_of


def worth_of(ground, worths, lot):
    """The sum of the worths of a lot."""
    check_worths(ground, worths)
    check_lot(ground, lot)
    return sum_of(worths, mask_of(lot))


def best_worth(ground, worths):
    """What the best pits are worth."""
    check_worths(ground, worths)
    return max(pit_sums(ground.covers, worths).values())


def all_best(ground, worths):
    """The list of the best pits, the smaller first, those of one size ascending."""
    check_worths(ground, worths)
    return in_order([lot_of(pit) for pit in best_masks(ground.covers, worths)])


def least_best(ground, worths):
    """The best pit that lies in all of them."""
    check_worths(ground, worths)
    return lot_of(common_mask(best_masks(ground.covers, worths)))


def greatest_best(ground, worths):
    """The best pit in which all of them lie."""
    check_worths(ground, worths)
    return lot_of(joint_mask(best_masks(ground.covers, worths)))


def fates(ground, worths):
    """The tuple, for each block, of "must" if all best pits have it, "never" if none has, "may" otherwise."""
    check_worths(ground, worths)
    best = best_masks(ground.covers, worths)
    least, greatest = common_mask(best), joint_mask(best)
    return tuple([fate(block, least, greatest) for block in range(len(ground.covers))])


def fate(block, least, greatest):
    """The fate of a block by the least and the greatest best pit."""
    if least >> block & 1:
        return "must"
    return "may" if greatest >> block & 1 else "never"


def with_block(ground, worths, block):
    """The greatest worth of a pit that has a block."""
    check_worths(ground, worths)
    check_block(ground, block)
    return most_with(pit_sums(ground.covers, worths), block)


def without_block(ground, worths, block):
    """The greatest worth of a pit that does not have a block."""
    check_worths(ground, worths)
    check_block(ground, block)
    return most_without(pit_sums(ground.covers, worths), block)
