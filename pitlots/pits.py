"""Pits: lots of blocks with all that they need."""

from pitlots.checks import check_lot, check_pit, is_pit_of
from pitlots.grounds import check_ground
from pitlots.masks import full_mask, in_order, is_pit_mask, joint_mask, lot_of, mask_of
from pitlots.masks import need_masks, next_within, pit_masks


def is_pit(ground, lot):
    """Whether a lot is a pit."""
    check_lot(ground, lot)
    return is_pit_of(ground, lot)


def all_pits(ground):
    """The list of all pits, the smaller first, those of one size ascending."""
    check_ground(ground)
    return in_order([lot_of(pit) for pit in pit_masks(ground.covers)])


def least_pit(ground, lot):
    """The smallest pit that has all blocks of a lot."""
    check_lot(ground, lot)
    needs = need_masks(ground.covers)
    return lot_of(mask_of(lot) | joint_mask([needs[block] for block in lot]))


def greatest_pit(ground, lot):
    """The greatest pit that has no block of a lot."""
    check_lot(ground, lot)
    barred = mask_of(lot)
    needs = need_masks(ground.covers)
    return tuple([block for block in range(len(needs)) if (needs[block] | 1 << block) & barred == 0])


def next_blocks(ground, pit):
    """The ascending list of the blocks beside a pit that it makes a pit with."""
    check_pit(ground, pit)
    return next_within(ground.covers, mask_of(pit), full_mask(ground.covers))


def last_blocks(ground, pit):
    """The ascending list of the blocks of a pit without which it is a pit."""
    check_pit(ground, pit)
    dug = mask_of(pit)
    return [block for block in pit if is_pit_mask(ground.covers, dug & ~(1 << block))]
