"""Shares of what all owners gain together, fractions, and those that are the average over all orders of the owners."""

from pitlots.errors import BadShares, NotHeld, NotWhole
from pitlots.leases import MANY_OWNERS, check_owners, gains_of
from pitlots.masks import lot_of
from pitlots.ratios import is_fraction, reduced, sum_fraction
from pitlots.splits import grown_shares
from pitlots.values import is_tuple_of


def are_shares(value):
    """Whether a value is shares."""
    return is_tuple_of(value, MANY_OWNERS) and all([is_fraction(share) for share in value])


def left_over(gains, shares, party):
    """By how much the shares of a party, a mask, are above its gain."""
    return sum_fraction([shares[owner] for owner in lot_of(party)] + [(-gains[party], 1)])


def are_whole(gains, shares):
    """Whether shares are together what all owners gain."""
    return left_over(gains, shares, len(gains) - 1) == (0, 1)


def are_held(gains, shares):
    """Whether no party's gain is above its shares."""
    return all([left_over(gains, shares, party)[0] >= 0 for party in range(len(gains))])


def check_shares(ground, worths, owners, shares):
    """Raise BadWorths, BadOwners, then BadShares, NotWhole, NotHeld for what is no shares that hold."""
    check_owners(ground, worths, owners)
    gains = gains_of(ground, worths, owners)
    if not are_shares(shares):
        raise BadShares()
    if not are_whole(gains, shares):
        raise NotWhole()
    if not are_held(gains, shares):
        raise NotHeld()


def shares_hold(ground, worths, owners, value):
    """Whether any value is shares that hold."""
    check_owners(ground, worths, owners)
    gains = gains_of(ground, worths, owners)
    return are_shares(value) and are_whole(gains, value) and are_held(gains, value)


def all_turns():
    """The list of all orders of the owners."""
    found = [()]
    for _ in range(MANY_OWNERS):
        found = [turns + (owner,) for turns in found for owner in range(MANY_OWNERS) if owner not in turns]
    return found


def average_split(ground, worths, owners):
    """For each owner the average of their shares by all orders of the owners."""
    check_owners(ground, worths, owners)
    gains = gains_of(ground, worths, owners)
    splits = [grown_shares(gains, turns) for turns in all_turns()]
    return tuple([reduced(sum([split[owner] for split in splits]), len(splits)) for owner in range(MANY_OWNERS)])
