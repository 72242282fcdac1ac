"""Purses that pay rows, and papers that show that no lesser purse does."""

from pitlots.checks import check_pit, check_worths, is_pit_of
from pitlots.errors import BadPurse
from pitlots.masks import in_order, lot_of, mask_of, masks_within, next_within, order_key, sum_of
from pitlots.values import is_between, is_rising

GREATEST_PURSE = 500


def purses_left(covers, worths, whole):
    """A dict, for each pit within a pit, of the least purse at first that pays some rest of a row from it on."""
    left = {}
    for pit in reversed(masks_within(covers, whole)):
        lowest = -sum_of(worths, pit)
        if pit != whole:
            lowest = max(lowest, min([left[pit | 1 << block] for block in next_within(covers, pit, whole)]))
        left[pit] = lowest
    return left


def least_purse(ground, worths, pit):
    """The least purse that pays some row of a pit."""
    check_worths(ground, worths)
    check_pit(ground, pit)
    return purses_left(ground.covers, worths, mask_of(pit))[0]


def first_paid(ground, worths, pit, purse):
    """The least row of a pit that a purse pays, None if it pays none."""
    check_worths(ground, worths)
    check_pit(ground, pit)
    check_purse(purse, 0)
    whole = mask_of(pit)
    left = purses_left(ground.covers, worths, whole)
    if left[0] > purse:
        return None
    row, dug = [], 0
    while dug != whole:
        paid = [block for block in next_within(ground.covers, dug, whole) if left[dug | 1 << block] <= purse]
        row.append(paid[0])
        dug |= 1 << paid[0]
    return tuple(row)


def check_purse(purse, least):
    """Raise BadPurse for what is no purse from a least one on."""
    if not is_between(purse, least, GREATEST_PURSE):
        raise BadPurse()


def purse_paper(ground, worths, pit):
    """A purse paper of a pit for its least purse, None if this is 0."""
    purse = least_purse(ground, worths, pit)
    if purse == 0:
        return None
    low = [other for other in masks_within(ground.covers, mask_of(pit)) if sum_of(worths, other) <= -purse]
    return tuple(in_order([lot_of(other) for other in low]))


def shows_purse(ground, worths, pit, purse, value):
    """Whether any value is a purse paper of a pit for a purse."""
    check_worths(ground, worths)
    check_pit(ground, pit)
    check_purse(purse, 1)
    if not isinstance(value, tuple) or not all([is_pit_of(ground, other) for other in value]):
        return False
    if not is_rising([order_key(other) for other in value]):
        return False
    whole = mask_of(pit)
    paper = [mask_of(other) for other in value]
    if not all([other & ~whole == 0 and sum_of(worths, other) <= -purse for other in paper]):
        return False
    return is_passed(ground.covers, whole, paper)


def is_passed(covers, whole, paper):
    """Whether each row of a pit passes one of some pits."""
    free = {}
    for pit in masks_within(covers, whole):
        # The pits within a pit ascend, so all from which a block leads here were told ahead.
        ahead = [pit & ~(1 << block) for block in lot_of(pit)]
        free[pit] = pit not in paper and (pit == 0 or any([free.get(other, False) for other in ahead]))
    return not free[whole]
