"""Twins: pairs of blocks of a pit that two machines can dig side by side."""

from pitlots.checks import check_pit, is_lot
from pitlots.masks import mask_of, need_masks
from pitlots.values import is_rising


def twins_within(covers, pit):
    """The ascending list of all pairs of blocks of a pit neither of which needs the other."""
    needs = need_masks(covers)
    # A lesser block never needs a greater one.
    return [(one, other) for one in pit for other in pit if one < other and not needs[other] >> one & 1]


def most_pairs(ground, pit):
    """How many pairs twins of a pit can have."""
    return len(best_pairs(ground, pit))


def best_pairs(ground, pit):
    """Twins of a pit, as many as there can be."""
    check_pit(ground, pit)
    # Of all twins of the same blocks one will do, since the rest of the pit is the same for all of them.
    found = {0: ()}
    for pair in twins_within(ground.covers, pit):
        for used in list(found):
            both = used | mask_of(pair)
            if used & mask_of(pair) == 0 and both not in found:
                found[both] = found[used] + (pair,)
    return max(list(found.values()), key=len)


def are_pairs(ground, pit, value):
    """Whether any value is twins of a pit."""
    check_pit(ground, pit)
    if not isinstance(value, tuple) or not all([is_lot(ground, pair) for pair in value]):
        return False
    pairs = twins_within(ground.covers, pit)
    blocks = [block for pair in value for block in pair]
    return is_rising(value) and all([pair in pairs for pair in value]) and len(set(blocks)) == len(blocks)
