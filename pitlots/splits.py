"""Splits of what all owners gain together, and those that hold."""

from pitlots.errors import BadOwner, BadOwnerRow, BadSplit, NotWhole, TooMany
from pitlots.leases import MANY_OWNERS, all_parties, check_owners, gains_of, is_owner
from pitlots.masks import mask_of, sum_of
from pitlots.values import are_between

GREATEST_SHARE = 1000
MOST_SPLITS = 2000


def check_split(ground, worths, owners, split):
    """Raise BadWorths, BadOwners, then BadSplit for what is no split, NotWhole for one of another sum."""
    check_owners(ground, worths, owners)
    if not are_between(split, MANY_OWNERS, -GREATEST_SHARE, GREATEST_SHARE):
        raise BadSplit()
    if sum(split) != gains_of(ground, worths, owners)[-1]:
        raise NotWhole()


def blocker(ground, worths, owners, split):
    """The least of the smallest parties whose gain is above their shares together, None if there is none."""
    check_split(ground, worths, owners, split)
    gains = gains_of(ground, worths, owners)
    above = [party for party in all_parties() if gains[mask_of(party)] > sum_of(split, mask_of(party))]
    return above[0] if above else None


def holds_for(ground, worths, owners, split):
    """Whether a split holds."""
    return blocker(ground, worths, owners, split) is None


def grown_shares(gains, turns):
    """The tuple of how much the gain of those ahead of each owner grows with them, when they come in turn."""
    shares, ahead = [0] * MANY_OWNERS, 0
    for owner in turns:
        shares[owner] = gains[ahead | 1 << owner] - gains[ahead]
        ahead |= 1 << owner
    return tuple(shares)


def by_order(ground, worths, owners, turns):
    """The split by which each owner gets by how much the gain of those ahead of them grows with them."""
    check_owners(ground, worths, owners)
    if not are_between(turns, MANY_OWNERS, 0, MANY_OWNERS - 1) or len(set(turns)) < MANY_OWNERS:
        raise BadOwnerRow()
    return grown_shares(gains_of(ground, worths, owners), turns)


def check_owner(ground, worths, owners, owner):
    """Raise BadWorths, BadOwners, then BadOwner for what is no owner."""
    check_owners(ground, worths, owners)
    if not is_owner(owner):
        raise BadOwner()


def least_share(ground, worths, owners, owner):
    """The least share of an owner in a split that holds: what they gain alone, as the first one of an order gets it."""
    check_owner(ground, worths, owners, owner)
    return gains_of(ground, worths, owners)[1 << owner]


def greatest_share(ground, worths, owners, owner):
    """The greatest share of an owner in a split that holds: by how much they let the gain of all others grow."""
    check_owner(ground, worths, owners, owner)
    gains = gains_of(ground, worths, owners)
    return gains[-1] - gains[-1 - (1 << owner)]


def next_shares(gains, shares):
    """The ascending list of the shares of the next owner by which the shares of the owners ahead can go on to hold.

    Gains bend upward, so all that bars a share is a party of these owners with the next one: together they get no
    less than they gain, and leave no less than the others gain.
    """
    bit = 1 << len(shares)
    sums = [(party | bit, sum_of(shares, party)) for party in range(bit)]
    low = max([gains[party] - ahead for party, ahead in sums])
    high = min([gains[-1] - gains[-1 - party] - ahead for party, ahead in sums])
    return list(range(low, high + 1))


def all_splits(ground, worths, owners):
    """The ascending list of all splits that hold."""
    check_owners(ground, worths, owners)
    gains = gains_of(ground, worths, owners)
    found = [()]
    for _ in range(MANY_OWNERS):
        # All shares that can go on do so to a split at least, so there are no fewer splits than these.
        if sum([len(next_shares(gains, shares)) for shares in found]) > MOST_SPLITS:
            raise TooMany(MOST_SPLITS)
        found = [shares + (share,) for shares in found for share in next_shares(gains, shares)]
    return found
