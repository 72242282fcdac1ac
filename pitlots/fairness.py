"""The fairest shares that hold, and what can go from a share to another one."""

from pitlots.averages import check_shares, left_over
from pitlots.errors import BadOwner
from pitlots.leases import MANY_OWNERS, all_parties, check_owners, gains_of, is_owner
from pitlots.masks import joint_mask, lot_of, mask_of
from pitlots.ratios import greatest_fraction, is_less, least_fraction, reduced


def rungs_of(gains):
    """The list of the tuples (average, party as a mask) in which the fair split is found."""
    found, ahead = [], 0
    while ahead < len(gains) - 1:
        averages = {}
        for party in range(1, len(gains)):
            if party & ahead == 0:
                averages[party] = reduced(gains[ahead | party] - gains[ahead], len(lot_of(party)))
        most = greatest_fraction(list(averages.values()))
        # Gains bend upward, so what all parties of this average have together is one of them.
        found.append((most, joint_mask([party for party in averages if averages[party] == most])))
        ahead |= found[-1][1]
    return found


def fair_ladder(ground, worths, owners):
    """The list of the tuples (average, party) in which the fair split is found."""
    check_owners(ground, worths, owners)
    return [(average, lot_of(party)) for average, party in rungs_of(gains_of(ground, worths, owners))]


def fair_split(ground, worths, owners):
    """Of all shares that hold those that are greatest if they are put in ascending order."""
    shares = {}
    for average, party in fair_ladder(ground, worths, owners):
        for owner in party:
            shares[owner] = average
    return tuple([shares[owner] for owner in range(MANY_OWNERS)])


def tight_parties(ground, worths, owners, shares):
    """The list of the parties whose shares are just their gain, the smaller first, those of one size ascending."""
    check_shares(ground, worths, owners, shares)
    gains = gains_of(ground, worths, owners)
    return [party for party in all_parties() if left_over(gains, shares, mask_of(party)) == (0, 1)]


def spare_of(gains, shares, one, other):
    """The greatest fraction that can go from an owner's share to that of another one so that they still hold."""
    # It is barred just by the parties that have the one and lack the other.
    parties = [party for party in range(len(gains)) if party >> one & 1 and not party >> other & 1]
    return least_fraction([left_over(gains, shares, party) for party in parties])


def spare(ground, worths, owners, shares, one, other):
    """The greatest fraction that can go from an owner's share to another one's, None if both are one owner."""
    check_shares(ground, worths, owners, shares)
    if not is_owner(one) or not is_owner(other):
        raise BadOwner()
    if one == other:
        return None
    return spare_of(gains_of(ground, worths, owners), shares, one, other)


def first_unfair(ground, worths, owners, shares):
    """The least pair of owners, the first one's share being the greater, with a spare above 0, None for none."""
    check_shares(ground, worths, owners, shares)
    gains = gains_of(ground, worths, owners)
    for one in range(MANY_OWNERS):
        for other in range(MANY_OWNERS):
            if is_less(shares[other], shares[one]) and spare_of(gains, shares, one, other)[0] > 0:
                return one, other
    return None
