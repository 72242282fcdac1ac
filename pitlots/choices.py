"""What is best, or fares least badly, where each block has some possible worths."""

from pitlots.cases import greatest_regret
from pitlots.checks import GREATEST_WORTH, check_pit
from pitlots.errors import BadChoices
from pitlots.grounds import check_ground
from pitlots.masks import in_order, lot_of, mask_of, pit_masks
from pitlots.values import are_between, is_rising, is_tuple_of

MOST_WORTHS = 3


def check_choices(ground, choices):
    """Raise BadChoices for what is no choices."""
    check_ground(ground)
    if not is_tuple_of(choices, len(ground.covers)):
        raise BadChoices(None)
    for index, worths in enumerate(choices):
        if not are_possible_worths(worths):
            raise BadChoices(index)


def are_possible_worths(value):
    """Whether a value is the possible worths of a block."""
    if not isinstance(value, tuple) or not 1 <= len(value) <= MOST_WORTHS:
        return False
    return are_between(value, len(value), -GREATEST_WORTH, GREATEST_WORTH) and is_rising(value)


def regret_of(covers, choices, pit):
    """The regret of a pit, a mask."""
    lows, highs = tuple([worths[0] for worths in choices]), tuple([worths[-1] for worths in choices])
    return greatest_regret(covers, lows, highs, pit)


def regrets(covers, choices):
    """The list of the pairs (regret, pit) of all pits, the smaller first, those of one size ascending."""
    pits = in_order([lot_of(pit) for pit in pit_masks(covers)])
    return [(regret_of(covers, choices, mask_of(pit)), pit) for pit in pits]


def count_cases(ground, choices):
    """How many cases there are."""
    check_choices(ground, choices)
    many = 1
    for worths in choices:
        many *= len(worths)
    return many


def known_best(ground, choices):
    """The first pit that is best in all cases, None if there is none."""
    check_choices(ground, choices)
    # A pit without regret is best, whatever the worths are.
    pits = [pit for much, pit in regrets(ground.covers, choices) if much == 0]
    return pits[0] if pits else None


def worst_regret(ground, choices, pit):
    """The regret of a pit."""
    check_choices(ground, choices)
    check_pit(ground, pit)
    return regret_of(ground.covers, choices, mask_of(pit))


def least_regret(ground, choices):
    """The pair of the least regret, and of the first pit that has it."""
    check_choices(ground, choices)
    found = regrets(ground.covers, choices)
    least = min([much for much, _ in found])
    return [pair for pair in found if pair[0] == least][0]
