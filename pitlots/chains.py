"""Chains of blocks, each of which needs the next one first."""

from pitlots.grounds import check_block, is_block


def chain(ground, one, other):
    """The least of the shortest chains from one block to another one, None if there is none."""
    check_block(ground, one)
    check_block(ground, other)
    ways = ways_to(ground.covers, other)
    if one not in ways:
        return None
    found = [one]
    while found[-1] != other:
        # The needs stand ascending, so the first one on a shortest way leads to the least chain.
        near = [first for first in ground.covers[found[-1]] if ways.get(first) == ways[found[-1]] - 1]
        found.append(near[0])
    return tuple(found)


def ways_to(covers, other):
    """A dict, for each block with a chain to another one, of how many needs the shortest one has."""
    ways = {other: 0}
    for block, firsts in enumerate(covers):
        if block != other:
            lengths = [ways[first] + 1 for first in firsts if first in ways]
            if lengths:
                ways[block] = min(lengths)
    return ways


def shows_chain(ground, one, other, value):
    """Whether any value is a chain from one block to another one."""
    check_block(ground, one)
    check_block(ground, other)
    if not isinstance(value, tuple) or not all([is_block(ground, block) for block in value]):
        return False
    if len(value) == 0 or value[0] != one or value[-1] != other:
        return False
    return all([after in ground.covers[ahead] for ahead, after in zip(value, value[1:])])
