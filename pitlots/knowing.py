"""What it is worth to know worths ahead of digging, summed over all cases."""

from pitlots.choices import check_choices, count_cases
from pitlots.errors import TooMany
from pitlots.grounds import check_block
from pitlots.masks import pit_masks, pit_sums
from pitlots.probing import narrowed

MOST_CASES = 5000


def check_cases(ground, choices):
    """Raise BadChoices, then TooMany if there are too many cases."""
    if count_cases(ground, choices) > MOST_CASES:
        raise TooMany(MOST_CASES)


def settled(most, block, worth):
    """What the other blocks can add at most to each pit of the blocks below one, when that one has a worth.

    most tells it of the pits that may have this block, too: of them it is the greatest.
    """
    bit = 1 << block
    found = {pit: most[pit] for pit in most if not pit & bit}
    for pit in most:
        if pit & bit:
            found[pit & ~bit] = max(found[pit & ~bit], most[pit] + worth)
    return found


def sum_known(ground, choices):
    """The sum, over all cases, of the best worth."""
    check_cases(ground, choices)
    left = [{pit: 0 for pit in pit_masks(ground.covers)}]
    for block in reversed(range(len(choices))):
        left = [settled(most, block, worth) for most in left for worth in choices[block]]
    return sum([most[0] for most in left])


def greatest_sum(ground, choices):
    """The greatest sum, over all cases, of the worth of one pit."""
    many = count_cases(ground, choices)
    amounts = [sum(worths) * (many // len(worths)) for worths in choices]
    return max(list(pit_sums(ground.covers, amounts).values()))


def sum_unknown(ground, choices):
    """The greatest sum, over all cases, of the worth of one and the same pit."""
    check_cases(ground, choices)
    return greatest_sum(ground, choices)


def knowing(ground, choices):
    """How much more the best worths of all cases are together than the worths of one and the same pit."""
    return sum_known(ground, choices) - sum_unknown(ground, choices)


def knowing_block(ground, choices, block):
    """How much more than sum_unknown it is if the pit may be another one for each worth of a block."""
    check_choices(ground, choices)
    check_block(ground, block)
    check_cases(ground, choices)
    told = [greatest_sum(ground, narrowed(choices, block, worth)) for worth in choices[block]]
    return sum(told) - greatest_sum(ground, choices)
