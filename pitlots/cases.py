"""Cases in which pits fare worst or best, when each block may be worth its least or its most, whatever the others are.

Here lows and highs are tuples of the least and the greatest worths of all blocks.
"""

from pitlots.masks import pit_sums


def case_of(inside, outside, pit):
    """The case in which the blocks of a pit, a mask, are worth what inside tells, all others what outside tells."""
    return tuple([inside[block] if pit >> block & 1 else outside[block] for block in range(len(inside))])


def regret_in(covers, case, pit):
    """How much more a best pit is worth than a pit in a case."""
    sums = pit_sums(covers, case)
    return max(list(sums.values())) - sums[pit]


def greatest_regret(covers, lows, highs, pit):
    """The greatest number, over all cases, by which a pit is worth more than this one: it is 0 if this is always best.

    It is met where the blocks of this one are worth their least, all others their most.
    """
    return regret_in(covers, case_of(lows, highs, pit), pit)


def least_possible_regret(covers, lows, highs, pit):
    """The least such number: it is 0 if the pit is best in some case."""
    return regret_in(covers, case_of(highs, lows, pit), pit)
