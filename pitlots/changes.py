"""What is best when a pit is dug already, and how one pit is made another one."""

from pitlots.checks import check_pit, check_worths, check_worths_and_refills
from pitlots.masks import best_masks, common_mask, is_pit_mask, joint_mask, lot_of, mask_of
from pitlots.masks import next_within, pit_sums, sum_of


def sums_from(ground, worths, pit):
    """A dict from all pits in which a pit lies to what they are worth; raises what is told for worths and the pit."""
    check_worths(ground, worths)
    check_pit(ground, pit)
    sums, dug = pit_sums(ground.covers, worths), mask_of(pit)
    return {other: sums[other] for other in sums if dug & ~other == 0}


def best_from(ground, worths, pit):
    """The greatest worth of a pit in which a pit lies."""
    return max(list(sums_from(ground, worths, pit).values()))


def least_from(ground, worths, pit):
    """The least of the pits worth most in which a pit lies."""
    sums = sums_from(ground, worths, pit)
    most = max(list(sums.values()))
    return lot_of(common_mask([other for other in sums if sums[other] == most]))


def regret(ground, worths, pit):
    """How much more a best pit is worth than one in which a pit lies can be."""
    most = best_from(ground, worths, pit)
    return max(list(pit_sums(ground.covers, worths).values())) - most


def never_begun(ground, worths, pit):
    """The ascending tuple of the blocks of a pit that no best pit has."""
    check_worths(ground, worths)
    check_pit(ground, pit)
    return lot_of(mask_of(pit) & ~joint_mask(best_masks(ground.covers, worths)))


def back_row(ground, pit, goal):
    """The least of the shortest rows of deeds that lead from a pit to another one.

    As long as the other one has blocks that are not dug, one of them can be dug, and to dig stands ahead of to fill.
    """
    check_pit(ground, pit)
    check_pit(ground, goal)
    covers, now, end = ground.covers, mask_of(pit), mask_of(goal)
    row = []
    while now != end:
        free = next_within(covers, now, now | end)
        if free:
            row.append(("dig", free[0]))
        else:
            row.append(("fill", first_to_fill(covers, now, end)))
        now ^= 1 << row[-1][1]
    return tuple(row)


def first_to_fill(covers, now, end):
    """The least block of a pit beside another one without which it is a pit."""
    return min([block for block in lot_of(now & ~end) if is_pit_mask(covers, now & ~(1 << block))])


def back_worth(ground, worths, refills, pit, goal):
    """The worths of what is dug, and the refills of what is filled, from a pit to another one, together."""
    check_worths_and_refills(ground, worths, refills)
    check_pit(ground, pit)
    check_pit(ground, goal)
    dug, wanted = mask_of(pit), mask_of(goal)
    return sum_of(worths, wanted & ~dug) + sum_of(refills, dug & ~wanted)
