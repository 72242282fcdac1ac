"""Rounds in which some machines dig a pit."""

from pitlots.checks import check_pit, is_lot
from pitlots.errors import BadMachines, BadRounds
from pitlots.grounds import check_block
from pitlots.masks import lot_of, mask_of, masks_within, next_within
from pitlots.values import is_between

MOST_MACHINES = 4
MOST_ROUNDS = 10


def check_machines(ground, pit, machines):
    """Raise BadLot, NotPit, then BadMachines for what is no number of machines."""
    check_pit(ground, pit)
    if not is_between(machines, 1, MOST_MACHINES):
        raise BadMachines()


def masks_of_some(blocks, most):
    """The masks of all lots of 1 to most of some blocks."""
    lots = [()]
    for block in blocks:
        lots = lots + [lot + (block,) for lot in lots if len(lot) < most]
    return [mask_of(lot) for lot in lots if lot]


def steps_within(covers, whole, machines):
    """The list of all (ahead, behind): pits within a pit between which one round lies, ahead ascending."""
    steps = []
    for pit in masks_within(covers, whole):
        for lot in masks_of_some(next_within(covers, pit, whole), machines):
            steps.append((pit, pit | lot))
    return steps


def fewest_from(steps, whole):
    """A dict, for each pit within a pit, of how few rounds dig the rest when it is dug."""
    fewest = {whole: 0}
    for ahead, behind in reversed(steps):
        if ahead not in fewest or fewest[ahead] > fewest[behind] + 1:
            fewest[ahead] = fewest[behind] + 1
    return fewest


def fewest_to(steps):
    """A dict, for each pit within a pit, of how few rounds dig it."""
    fewest = {0: 0}
    for ahead, behind in steps:
        if behind not in fewest or fewest[behind] > fewest[ahead] + 1:
            fewest[behind] = fewest[ahead] + 1
    return fewest


def fewest_rounds(ground, pit, machines):
    """How few rounds of a pit there can be."""
    check_machines(ground, pit, machines)
    whole = mask_of(pit)
    return fewest_from(steps_within(ground.covers, whole, machines), whole)[0]


def best_rounds(ground, pit, machines):
    """Rounds of a pit, as few as there can be."""
    check_machines(ground, pit, machines)
    whole = mask_of(pit)
    steps = steps_within(ground.covers, whole, machines)
    fewest = fewest_from(steps, whole)
    found, dug = [], 0
    for ahead, behind in steps:
        # Steps ascend by the pit ahead, so the ones from what is dug are still to come.
        if ahead == dug and fewest[behind] == fewest[ahead] - 1:
            found.append(lot_of(behind & ~ahead))
            dug = behind
    return tuple(found)


def round_count(ground, pit, machines, value):
    """How many rounds any value has, if it is rounds of a pit, otherwise None."""
    check_machines(ground, pit, machines)
    if not isinstance(value, tuple) or not all([is_lot(ground, lot) for lot in value]):
        return None
    whole, dug = mask_of(pit), 0
    for lot in value:
        free = next_within(ground.covers, dug, whole)
        if not 1 <= len(lot) <= machines or not all([block in free for block in lot]):
            return None
        dug |= mask_of(lot)
    return len(value) if dug == whole else None


def round_span(ground, pit, machines, rounds, block):
    """The first and the last round in which a block can be dug in at most so many rounds of a pit, None for none."""
    check_machines(ground, pit, machines)
    if not is_between(rounds, 0, MOST_ROUNDS):
        raise BadRounds()
    check_block(ground, block)
    whole = mask_of(pit)
    steps = steps_within(ground.covers, whole, machines)
    to, rest = fewest_to(steps), fewest_from(steps, whole)
    firsts, lasts = [], []
    for ahead, behind in steps:
        if (behind & ~ahead) >> block & 1 and to[ahead] + 1 + rest[behind] <= rounds:
            firsts.append(to[ahead] + 1)
            # Rounds can be parted into more of them, up to one for each block.
            lasts.append(min(len(lot_of(ahead)) + 1, rounds - rest[behind]))
    return (min(firsts), max(lasts)) if firsts else None


def heights_within(covers, pit):
    """A dict, for each block of a pit, of how many needs the longest chain of its blocks has that leads to it."""
    heights = {}
    for block in reversed(pit):
        above = [heights[other] + 1 for other in pit if block in covers[other]]
        heights[block] = max(above, default=0)
    return heights


def highest_first(ground, pit, machines):
    """The rounds that each dig as many blocks as can be, those first to which the longest chains lead."""
    check_machines(ground, pit, machines)
    heights = heights_within(ground.covers, pit)
    found, dug = [], 0
    while dug != mask_of(pit):
        free = next_within(ground.covers, dug, mask_of(pit))
        ranked = sorted([(-heights[block], block) for block in free])
        found.append(tuple(sorted([block for _, block in ranked[:machines]])))
        dug |= mask_of(found[-1])
    return tuple(found)
