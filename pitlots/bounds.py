"""What is sure, and what is possible, where worths are known between bounds."""

from pitlots.cases import case_of, greatest_regret, least_possible_regret
from pitlots.checks import GREATEST_WORTH, check_pit, is_pit_of
from pitlots.errors import BadBounds
from pitlots.grounds import check_ground
from pitlots.masks import best_masks, common_mask, in_order, joint_mask, lot_of, mask_of, pit_masks, sum_of
from pitlots.payments import payments, shows_best
from pitlots.values import are_between, is_between, is_tuple_of
from pitlots.worths import fate


def check_bounds(ground, bounds):
    """Raise BadBounds for what is no bounds."""
    check_ground(ground)
    if not is_tuple_of(bounds, len(ground.covers)):
        raise BadBounds(None)
    for index, pair in enumerate(bounds):
        if not are_between(pair, 2, -GREATEST_WORTH, GREATEST_WORTH) or pair[0] > pair[1]:
            raise BadBounds(index)


def lows_of(bounds):
    """The tuple of the least worths of all blocks."""
    return tuple([low for low, _ in bounds])


def highs_of(bounds):
    """The tuple of the greatest worths of all blocks."""
    return tuple([high for _, high in bounds])


def sure_masks(covers, bounds):
    """The list of the pits that are best in all cases."""
    lows, highs = lows_of(bounds), highs_of(bounds)
    return [pit for pit in pit_masks(covers) if greatest_regret(covers, lows, highs, pit) == 0]


def possible_masks(covers, bounds):
    """The list of the pits that are best in some case."""
    lows, highs = lows_of(bounds), highs_of(bounds)
    return [pit for pit in pit_masks(covers) if least_possible_regret(covers, lows, highs, pit) == 0]


def is_sure(ground, bounds, pit):
    """Whether a pit is best in all cases."""
    check_bounds(ground, bounds)
    check_pit(ground, pit)
    return greatest_regret(ground.covers, lows_of(bounds), highs_of(bounds), mask_of(pit)) == 0


def is_possible(ground, bounds, pit):
    """Whether a pit is best in some case."""
    check_bounds(ground, bounds)
    check_pit(ground, pit)
    return least_possible_regret(ground.covers, lows_of(bounds), highs_of(bounds), mask_of(pit)) == 0


def sure_pits(ground, bounds):
    """The list of all sure pits, the smaller first, those of one size ascending."""
    check_bounds(ground, bounds)
    return in_order([lot_of(pit) for pit in sure_masks(ground.covers, bounds)])


def possible_pits(ground, bounds):
    """The list of all possible pits, the smaller first, those of one size ascending."""
    check_bounds(ground, bounds)
    return in_order([lot_of(pit) for pit in possible_masks(ground.covers, bounds)])


def fates_whatever(ground, bounds):
    """The tuple, for each block, of "must" if all possible pits have it, "never" if none has, "may" otherwise."""
    check_bounds(ground, bounds)
    pits = possible_masks(ground.covers, bounds)
    least, greatest = common_mask(pits), joint_mask(pits)
    return tuple([fate(block, least, greatest) for block in range(len(ground.covers))])


def worst_case(bounds, pit):
    """The case in which the blocks of a pit are worth their least, all others their most."""
    return case_of(lows_of(bounds), highs_of(bounds), mask_of(pit))


def sure_verdict(ground, bounds, pit):
    """("sure", payments that show it) for a sure pit, otherwise ("case", worths, another pit that is worth more)."""
    check_bounds(ground, bounds)
    check_pit(ground, pit)
    case = worst_case(bounds, pit)
    best = best_masks(ground.covers, case)
    if mask_of(pit) in best:
        return "sure", payments(ground, case)
    return "case", case, lot_of(best[0])


def is_case(bounds, value):
    """Whether a value is worths within bounds."""
    if not is_tuple_of(value, len(bounds)):
        return False
    return all([is_between(worth, low, high) for worth, (low, high) in zip(value, bounds)])


def shows_sure(ground, bounds, pit, value):
    """Whether any value is a verdict that holds: payments that show it, or whatever case and pit worth more in it."""
    check_bounds(ground, bounds)
    check_pit(ground, pit)
    if is_tuple_of(value, 2) and value[0] == "sure":
        return shows_best(ground, worst_case(bounds, pit), pit, value[1])
    if not is_tuple_of(value, 3) or value[0] != "case":
        return False
    _, worths, other = value
    if not is_case(bounds, worths) or not is_pit_of(ground, other):
        return False
    return sum_of(worths, mask_of(other)) > sum_of(worths, mask_of(pit))
