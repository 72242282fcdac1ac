"""Joins of two grounds that share some of their blocks.

The nodes of a join are the blocks of the one ground, then those of the other one that are not shared.
"""

from pitlots.checks import check_worths
from pitlots.errors import BadJoin, BadShared
from pitlots.grounds import MOST_BLOCKS, Ground, check_ground, is_block
from pitlots.masks import best_masks, common_mask, lot_of, pit_sums
from pitlots.orders import covers_by, least_order, places_by
from pitlots.pits import all_pits
from pitlots.values import is_rising, is_tuple_of


def are_shared(one, other, value):
    """Whether a value tells shared blocks of two grounds."""
    if not isinstance(value, tuple) or not all([is_tuple_of(pair, 2) for pair in value]):
        return False
    if not all([is_block(one, block) and is_block(other, twin) for block, twin in value]):
        return False
    return is_rising([block for block, _ in value]) and len({twin for _, twin in value}) == len(value)


def check_shared(one, other, shared):
    """Raise BadGround for one, then for other, then BadShared for what tells no shared blocks of them."""
    check_ground(one)
    check_ground(other)
    if not are_shared(one, other, shared):
        raise BadShared()


def nodes_of(one, other, shared):
    """For each block of the other ground which node of the join it is."""
    twins = {twin: block for block, twin in shared}
    own = [block for block in range(len(other.covers)) if block not in twins]
    return [twins[block] if block in twins else len(one.covers) + own.index(block)
            for block in range(len(other.covers))]


def join_of(one, other, shared):
    """The join with the places in it of the blocks of one, and of other; raises BadJoin if there is none."""
    nodes = nodes_of(one, other, shared)
    firsts = [list(needs) for needs in one.covers] + [[] for _ in range(len(other.covers) - len(shared))]
    for node, needs in zip(nodes, other.covers):
        firsts[node].extend([nodes[first] for first in needs])
    order = least_order(firsts)
    if len(firsts) > MOST_BLOCKS or len(order) < len(firsts):
        raise BadJoin()
    found = places_by(order)
    return Ground(covers_by(firsts, order)), tuple(found[:len(one.covers)]), tuple([found[node] for node in nodes])


def joined(one, other, shared):
    """The join of two grounds."""
    check_shared(one, other, shared)
    return join_of(one, other, shared)[0]


def places(one, other, shared):
    """The pair of tuples of which block of the join each block of one is, and each block of other."""
    check_shared(one, other, shared)
    _, ones, others = join_of(one, other, shared)
    return ones, others


def pair_of(pit, ones, others):
    """The pair of the pits that are together a pit of the join; ones and others are the places of all blocks."""
    return (tuple([block for block, place in enumerate(ones) if place in pit]),
            tuple([block for block, place in enumerate(others) if place in pit]))


def agreeing_pits(one, other, shared):
    """The list of the pairs of pits that agree, in the order of the pits of the join."""
    check_shared(one, other, shared)
    ground, ones, others = join_of(one, other, shared)
    return [pair_of(pit, ones, others) for pit in all_pits(ground)]


def check_worths_of_both(one, other, shared, worths, more):
    """Raise the errors of check_shared, then BadWorths for worths of one, then for worths of other."""
    check_shared(one, other, shared)
    check_worths(one, worths)
    check_worths(other, more)


def joint_worths(ones, others, worths, more):
    """The list of what the blocks of the join are worth for both grounds together."""
    amounts = {place: 0 for place in ones + others}
    for place, worth in zip(ones + others, worths + more):
        amounts[place] += worth
    return [amounts[place] for place in range(len(amounts))]


def join_worth(one, other, shared, worths, more):
    """The greatest worth of a pair of pits that agree."""
    check_worths_of_both(one, other, shared, worths, more)
    ground, ones, others = join_of(one, other, shared)
    return max(list(pit_sums(ground.covers, joint_worths(ones, others, worths, more)).values()))


def best_pair(one, other, shared, worths, more):
    """The pair of pits that agree and are worth most that lies in all such pairs."""
    check_worths_of_both(one, other, shared, worths, more)
    ground, ones, others = join_of(one, other, shared)
    best = best_masks(ground.covers, joint_worths(ones, others, worths, more))
    return pair_of(lot_of(common_mask(best)), ones, others)
