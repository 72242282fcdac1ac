"""Grounds: blocks, each of which can be dug behind some others alone."""

from pitlots.errors import BadBlock, BadCovers, BadGround, BadOrder
from pitlots.masks import full_mask, lot_of, mask_of, need_masks
from pitlots.values import is_between, is_lot_below, is_tuple_of

MOST_BLOCKS = 10


class Ground:
    """A ground; covers is a tuple, for each block, of the ascending tuple of those that it needs first."""

    def __init__(self, covers):
        check_covers(covers)
        self.covers = covers

    def __eq__(self, other):
        return isinstance(other, Ground) and self.covers == other.covers

    def __len__(self):
        return len(self.covers)


def check_covers(covers):
    """Raise BadCovers for what is no covers of a ground."""
    if not isinstance(covers, tuple) or not 1 <= len(covers) <= MOST_BLOCKS:
        raise BadCovers(None)
    for block, firsts in enumerate(covers):
        if not is_lot_below(firsts, block):
            raise BadCovers(block)


def check_ground(ground):
    """Raise BadGround for what is no ground."""
    if not isinstance(ground, Ground):
        raise BadGround()


def is_block(ground, value):
    """Whether a value is a block of a ground."""
    return is_between(value, 0, len(ground.covers) - 1)


def check_block(ground, block):
    """Raise BadGround, then BadBlock, for what is no ground, or no block of it."""
    check_ground(ground)
    if not is_block(ground, block):
        raise BadBlock()


def cover(ground, block):
    """The ascending tuple of all blocks that a block needs."""
    check_block(ground, block)
    return lot_of(need_masks(ground.covers)[block])


def needers(ground, block):
    """The ascending tuple of all blocks that need a block."""
    check_block(ground, block)
    needs = need_masks(ground.covers)
    return tuple([other for other in range(len(needs)) if needs[other] >> block & 1])


def levels(ground):
    """The tuple, for each block, of 0 if it needs none, otherwise 1 more than the greatest of those it needs."""
    check_ground(ground)
    found = []
    for firsts in ground.covers:
        found.append(max([found[first] + 1 for first in firsts], default=0))
    return tuple(found)


def is_whole_row(covers, value, whole):
    """Whether a value is a tuple of all blocks of a pit, given as a mask, each behind all that it needs."""
    if not is_tuple_of(value, len(lot_of(whole))):
        return False
    dug = 0
    for block in value:
        if not is_between(block, 0, len(covers) - 1) or mask_of(covers[block]) & ~dug:
            return False
        dug |= 1 << block
    # With a block twice, another one would be lacking.
    return dug == whole


def renamed(ground, order):
    """The ground in which each block is the one that stands in its place in an order of all blocks."""
    check_ground(ground)
    if not is_whole_row(ground.covers, order, full_mask(ground.covers)):
        raise BadOrder()
    names = {block: name for name, block in enumerate(order)}
    return Ground(tuple([tuple(sorted([names[first] for first in ground.covers[block]])) for block in order]))
