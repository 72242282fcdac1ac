"""Lots as masks: integers in which the bit 1 << block is set for each block of the lot.

Lots are joined, compared and counted faster so. Nothing here is asked of what callers pass: they are told masks, and
covers, of a ground.
"""


def mask_of(lot):
    """The mask of some blocks, in whatever order."""
    mask = 0
    for block in lot:
        mask |= 1 << block
    return mask


def lot_of(mask):
    """The lot of a mask: the ascending tuple of its blocks."""
    return tuple([block for block in range(mask.bit_length()) if mask >> block & 1])


def full_mask(covers):
    """The mask of all blocks."""
    return (1 << len(covers)) - 1


def first_masks(covers):
    """For each block the mask of those that it needs first."""
    return [mask_of(firsts) for firsts in covers]


def need_masks(covers):
    """For each block the mask of all blocks that it needs."""
    needs = []
    for firsts in covers:
        mask = mask_of(firsts)
        for first in firsts:
            mask |= needs[first]
        needs.append(mask)
    return needs


def is_pit_mask(covers, mask):
    """Whether a mask has all that its blocks need."""
    return all([mask_of(covers[block]) & ~mask == 0 for block in lot_of(mask)])


def pit_masks(covers):
    """The ascending list of all pits: each one stands behind all that lie in it."""
    pits = [0]
    for block, firsts in enumerate(first_masks(covers)):
        pits = pits + [pit | 1 << block for pit in pits if firsts & ~pit == 0]
    return pits


def masks_within(covers, whole):
    """The ascending list of all pits that lie in a pit."""
    return [pit for pit in pit_masks(covers) if pit & ~whole == 0]


def next_within(covers, pit, whole):
    """The ascending list of the blocks of a pit that can be dug next when a lesser one is dug."""
    return [block for block in lot_of(whole & ~pit) if mask_of(covers[block]) & ~pit == 0]


def is_free(covers, dug, block):
    """Whether a block is not dug, and all that it needs is."""
    return not dug >> block & 1 and mask_of(covers[block]) & ~dug == 0


def in_order(lots):
    """The list of some lots, the smaller first, those of one size ascending."""
    return sorted(lots, key=order_key)


def order_key(lot):
    """What lots are put in order by."""
    return len(lot), lot


def sum_of(amounts, mask):
    """The sum of the amounts of the blocks of a mask."""
    return sum([amounts[block] for block in lot_of(mask)])


def pit_sums(covers, amounts):
    """A dict from each pit, ascending, to the sum of the amounts of its blocks."""
    sums = {0: 0}
    for block, firsts in enumerate(first_masks(covers)):
        more = {pit | 1 << block: sums[pit] + amounts[block] for pit in sums if firsts & ~pit == 0}
        sums.update(more)
    return sums


def most_with(sums, block):
    """The greatest of the sums of pits that have a block."""
    return max([sums[pit] for pit in sums if pit >> block & 1])


def most_without(sums, block):
    """The greatest of the sums of pits that do not have a block."""
    return max([sums[pit] for pit in sums if not pit >> block & 1])


def best_masks(covers, amounts):
    """The list of the pits with the greatest sum of amounts."""
    sums = pit_sums(covers, amounts)
    most = max(sums.values())
    return [pit for pit in sums if sums[pit] == most]


def common_mask(masks):
    """What some masks, at least one, have in common."""
    common = masks[0]
    for mask in masks:
        common &= mask
    return common


def joint_mask(masks):
    """What some masks have together."""
    joint = 0
    for mask in masks:
        joint |= mask
    return joint
