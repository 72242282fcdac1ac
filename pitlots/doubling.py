"""Doubled grounds: of each block of a ground one to be dug and one to stay open, so that plans are pits."""

from pitlots.checks import GREATEST_WORTH, check_pit, check_worths_and_refills
from pitlots.errors import TooGreat, TooHigh
from pitlots.grounds import Ground, check_ground
from pitlots.refills import check_plan
from pitlots.values import are_between

MOST_DOUBLED = 5


def check_small(ground):
    """Raise TooGreat for a ground that cannot be doubled."""
    check_ground(ground)
    if len(ground.covers) > MOST_DOUBLED:
        raise TooGreat()


def doubled_ground(ground):
    """The doubled ground of one that can be doubled."""
    covers = []
    for block, firsts in enumerate(ground.covers):
        covers.append(tuple([2 * first for first in firsts]))
        covers.append(tuple(sorted([2 * block] + [2 * first + 1 for first in firsts])))
    return Ground(tuple(covers))


def doubled(ground):
    """The doubled ground: the block 2 * b for b to be dug, 2 * b + 1 for b to stay open."""
    check_small(ground)
    return doubled_ground(ground)


def doubled_worths(ground, worths, refills):
    """The worths of the doubled ground."""
    check_worths_and_refills(ground, worths, refills)
    check_small(ground)
    found = []
    for worth, refill in zip(worths, refills):
        found = found + [worth + refill, -refill]
    if not are_between(tuple(found), len(found), -GREATEST_WORTH, GREATEST_WORTH):
        raise TooHigh()
    return tuple(found)


def as_pit(ground, dug, open_pit):
    """The pit of the doubled ground that a plan is."""
    check_plan(ground, dug, open_pit)
    check_small(ground)
    return tuple(sorted([2 * block for block in dug] + [2 * block + 1 for block in open_pit]))


def of_pit(ground, pit):
    """The pair (dug, open) that a pit of the doubled ground is."""
    check_small(ground)
    check_pit(doubled_ground(ground), pit)
    dug = tuple([block // 2 for block in pit if block & 1 == 0])
    return dug, tuple([block // 2 for block in pit if block & 1])
