"""Pits by periods: what blocks are worth hangs on when they are dug."""

from pitlots.checks import is_pit_of
from pitlots.errors import BadPeriods
from pitlots.grounds import Ground, check_ground
from pitlots.masks import best_masks, full_mask, lot_of, mask_of, sum_of
from pitlots.values import are_between, is_tuple_of

GREATEST_WORTH_BY_PERIOD = 25
MOST_COPIES = 10


def check_periods(ground, periods):
    """Raise BadPeriods for what is no periods."""
    check_ground(ground)
    many = len(ground.covers)
    if not isinstance(periods, tuple) or not 1 <= len(periods) <= MOST_COPIES // many:
        raise BadPeriods(None)
    for index, worths in enumerate(periods):
        if not are_between(worths, many, -GREATEST_WORTH_BY_PERIOD, GREATEST_WORTH_BY_PERIOD):
            raise BadPeriods(index)


def copies(ground, periods):
    """The pair of a ground, of a copy of each block for each period, those for the last one first, and its worths."""
    check_periods(ground, periods)
    many = len(ground.covers)
    covers, worths, later = [], [], (0,) * many
    for period in reversed(periods):
        ahead = len(covers)
        for block, firsts in enumerate(ground.covers):
            same = (ahead - many + block,) if ahead else ()
            covers.append(same + tuple([ahead + first for first in firsts]))
            worths.append(period[block] - later[block])
        later = period
    return Ground(tuple(covers)), tuple(worths)


def best_by_when(ground, periods):
    """The pair of the greatest worth of all pits by periods, and of such pits."""
    copied, worths = copies(ground, periods)
    best = best_masks(copied.covers, worths)[0]
    many, full = len(ground.covers), full_mask(ground.covers)
    pits = [lot_of(best >> many * later & full) for later in range(len(periods))]
    return sum_of(worths, best), tuple(pits[::-1])


def worth_by_when(ground, periods, value):
    """What any value is worth, if it is pits by periods, otherwise None."""
    check_periods(ground, periods)
    if not is_tuple_of(value, len(periods)) or not all([is_pit_of(ground, pit) for pit in value]):
        return None
    worth, dug = 0, 0
    for worths, pit in zip(periods, value):
        if dug & ~mask_of(pit):
            return None
        worth += sum_of(worths, mask_of(pit) & ~dug)
        dug = mask_of(pit)
    return worth
