"""Plans: what is dug, and what of it stays open, while the rest is filled again."""

from pitlots.checks import check_lot, check_pit, check_worths_and_refills, is_pit_of
from pitlots.errors import NotWithin
from pitlots.masks import common_mask, first_masks, joint_mask, lot_of, mask_of, sum_of


def can_refill(ground, pit, lot):
    """Whether a lot lies in a pit and leaves a pit if it is filled again."""
    check_pit(ground, pit)
    check_lot(ground, lot)
    rest = tuple([block for block in pit if block not in lot])
    return all([block in pit for block in lot]) and is_pit_of(ground, rest)


def check_plan(ground, dug, open_pit):
    """Raise BadLot and NotPit for what is dug, then for what stays open, then NotWithin if this was not dug."""
    check_pit(ground, dug)
    check_pit(ground, open_pit)
    if not all([block in dug for block in open_pit]):
        raise NotWithin()


def plan_worth(ground, worths, refills, dug, open_pit):
    """What a plan is worth."""
    check_worths_and_refills(ground, worths, refills)
    check_plan(ground, dug, open_pit)
    return sum_of(worths, mask_of(dug)) + sum_of(refills, mask_of(dug) & ~mask_of(open_pit))


def plan_worths(covers, worths, refills):
    """A dict from all plans, pairs (dug, open) of masks, to what they are worth."""
    found = {(0, 0): 0}
    for block, firsts in enumerate(first_masks(covers)):
        more, bit = {}, 1 << block
        for (dug, left), worth in found.items():
            more[dug, left] = worth
            if firsts & ~dug == 0:
                more[dug | bit, left] = worth + worths[block] + refills[block]
            if firsts & ~left == 0:
                more[dug | bit, left | bit] = worth + worths[block]
        found = more
    return found


def best_plans(plans):
    """The list of those of some plans that are worth most."""
    most = max(list(plans.values()))
    return [plan for plan in plans if plans[plan] == most]


def common_plan(plans):
    """The pair of lots of what some plans have dug, and have open, in common."""
    return lot_of(common_mask([dug for dug, _ in plans])), lot_of(common_mask([left for _, left in plans]))


def best_refill(ground, worths, refills):
    """The greatest worth of a plan."""
    check_worths_and_refills(ground, worths, refills)
    return max(list(plan_worths(ground.covers, worths, refills).values()))


def least_plan(ground, worths, refills):
    """The pair (dug, open) of what all plans worth most have dug, and what is open in all."""
    check_worths_and_refills(ground, worths, refills)
    return common_plan(best_plans(plan_worths(ground.covers, worths, refills)))


def greatest_plan(ground, worths, refills):
    """The pair (dug, open) of what some plan worth most has dug, and what is open in some."""
    check_worths_and_refills(ground, worths, refills)
    plans = best_plans(plan_worths(ground.covers, worths, refills))
    return lot_of(joint_mask([dug for dug, _ in plans])), lot_of(joint_mask([left for _, left in plans]))


def plans_after(ground, worths, refills, pit):
    """A dict from all plans by which a pit is dug to what they are worth."""
    whole, plans = mask_of(pit), plan_worths(ground.covers, worths, refills)
    return {(dug, left): plans[dug, left] for dug, left in plans if whole & ~dug == 0}


def best_after(ground, worths, refills, pit):
    """The greatest worth of what is still to come when a pit is dug already."""
    check_worths_and_refills(ground, worths, refills)
    check_pit(ground, pit)
    return max(list(plans_after(ground, worths, refills, pit).values())) - sum_of(worths, mask_of(pit))


def least_after(ground, worths, refills, pit):
    """The pair (dug, open) of what all plans worth most by which a pit is dug have dug, and what is open in all."""
    check_worths_and_refills(ground, worths, refills)
    check_pit(ground, pit)
    return common_plan(best_plans(plans_after(ground, worths, refills, pit)))
