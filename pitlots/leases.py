"""Owners of blocks, and what parties of them can dig alone.

Inside the package parties are also masks, as lots are, and gains a list of the gains of all parties, each at its mask.
"""

from pitlots.checks import check_worths
from pitlots.errors import BadOwners, BadParty
from pitlots.masks import common_mask, in_order, lot_of, mask_of, pit_sums
from pitlots.values import are_between, is_between, is_lot_below

MANY_OWNERS = 4


def is_owner(value):
    """Whether a value is an owner."""
    return is_between(value, 0, MANY_OWNERS - 1)


def check_owners(ground, worths, owners):
    """Raise BadWorths, then BadOwners for what is no owners."""
    check_worths(ground, worths)
    if not are_between(owners, len(ground.covers), 0, MANY_OWNERS - 1):
        raise BadOwners()


def check_party(party):
    """Raise BadParty for what is no party."""
    if not is_lot_below(party, MANY_OWNERS):
        raise BadParty()


def all_parties():
    """The list of all parties, the smaller first, those of one size ascending."""
    return in_order([lot_of(party) for party in range(1 << MANY_OWNERS)])


def sums_alone(covers, worths, owners, party):
    """A dict from all pits that a party, a mask, can dig alone to what they are worth."""
    theirs = mask_of([block for block, owner in enumerate(owners) if party >> owner & 1])
    sums = pit_sums(covers, worths)
    return {pit: sums[pit] for pit in sums if pit & ~theirs == 0}


def gains_of(ground, worths, owners):
    """The list of the gains of all parties."""
    return [max(list(sums_alone(ground.covers, worths, owners, party).values())) for party in range(1 << MANY_OWNERS)]


def gain_of(ground, worths, owners, party):
    """The greatest worth of the pits that a party can dig alone."""
    check_owners(ground, worths, owners)
    check_party(party)
    return gains_of(ground, worths, owners)[mask_of(party)]


def own_pit(ground, worths, owners, party):
    """Of the pits worth most that a party can dig alone the one that lies in all of them."""
    check_owners(ground, worths, owners)
    check_party(party)
    sums = sums_alone(ground.covers, worths, owners, mask_of(party))
    most = max(list(sums.values()))
    return lot_of(common_mask([pit for pit in sums if sums[pit] == most]))


def bend(ground, worths, owners, one, other):
    """The gain of two parties together, and that of those in both, less that of the one, less that of the other."""
    check_owners(ground, worths, owners)
    check_party(one)
    check_party(other)
    gains = gains_of(ground, worths, owners)
    left, right = mask_of(one), mask_of(other)
    return gains[left | right] + gains[left & right] - gains[left] - gains[right]
