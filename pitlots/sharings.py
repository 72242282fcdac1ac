"""Sharings of the costs: each cost is shared by blocks with a gain, at their rates."""

from pitlots.checks import are_triples, check_gains_and_costs, check_price
from pitlots.errors import BadSharing
from pitlots.flows import greatest_flow
from pitlots.ladders import layers, rates
from pitlots.masks import need_masks
from pitlots.ratios import is_fraction, is_less, least_fraction, product_fraction, reduced, sum_fraction
from pitlots.values import is_tuple_of


def sharing_pairs(covers, gains, costs):
    """The list of all (from, to): from has a gain, to has a cost, and from is to or needs it."""
    needs = need_masks(covers)
    givers = [block for block, gain in enumerate(gains) if gain > 0]
    takers = [block for block, cost in enumerate(costs) if cost > 0]
    return [(giver, taker) for giver in givers for taker in takers if (needs[giver] | 1 << giver) >> taker & 1]


def sharing(ground, gains, costs):
    """A sharing of the costs, a pair (rates, shares)."""
    found = rates(ground, gains, costs)
    own_rates = tuple([rate if gain > 0 else None for rate, gain in zip(found, gains)])
    pairs = sharing_pairs(ground.covers, gains, costs)
    shares = []
    for rate, lot in layers(ground, gains, costs):
        shares.extend(layer_shares(gains, costs, pairs, rate, lot))
    return own_rates, tuple(sorted(shares))


def layer_shares(gains, costs, pairs, rate, lot):
    """The list of shares by which the blocks with a gain in a layer pay its costs."""
    # Times what stands beneath in the rate all amounts are whole, and so is a greatest flow.
    above, beneath = rate
    gives = {block: gains[block] * above for block in lot if gains[block] > 0}
    takes = {block: costs[block] * beneath for block in lot if costs[block] > 0}
    inside = [pair for pair in pairs if pair[0] in lot and pair[1] in lot]
    return [(giver, taker, reduced(many, beneath)) for giver, taker, many in greatest_flow(gives, takes, inside)]


def are_rates(gains, value):
    """Whether any value is a tuple of a fraction, not below 0, for each block with a gain, of None for all others."""
    if not is_tuple_of(value, len(gains)):
        return False
    for gain, rate in zip(gains, value):
        if gain == 0 and rate is not None:
            return False
        if gain > 0 and (not is_fraction(rate) or rate[0] < 0):
            return False
    return True


def are_shares(ground, pairs, value):
    """Whether any value is an ascending tuple of triples (from, to, share), no two of the same from and to."""
    if not are_triples(ground, pairs, value):
        return False
    return all([is_fraction(share) and share[0] > 0 for giver, taker, share in value])


def is_paid_whole(costs, pairs, own_rates, shares, taker):
    """Whether a cost is what its shares are together, and just payers with the least rate pay it."""
    payers = [giver for giver, other in pairs if other == taker]
    if not payers:
        return True
    least = least_fraction([own_rates[giver] for giver in payers])
    parts = [(giver, share) for giver, other, share in shares if other == taker]
    if not all([own_rates[giver] == least for giver, _ in parts]):
        return False
    return sum_fraction([share for _, share in parts]) == (costs[taker], 1)


def is_spent_whole(gains, own_rates, shares, giver):
    """Whether all that a block pays is its rate times its gain."""
    paid = sum_fraction([share for other, _, share in shares if other == giver])
    return paid == product_fraction(own_rates[giver], (gains[giver], 1))


def is_sharing(ground, gains, costs, value):
    """Whether any value is a sharing, by gains and costs that were checked."""
    pairs = sharing_pairs(ground.covers, gains, costs)
    if not is_tuple_of(value, 2) or not are_rates(gains, value[0]) or not are_shares(ground, pairs, value[1]):
        return False
    own_rates, shares = value
    givers = [block for block, gain in enumerate(gains) if gain > 0]
    takers = [block for block, cost in enumerate(costs) if cost > 0]
    if not all([is_paid_whole(costs, pairs, own_rates, shares, taker) for taker in takers]):
        return False
    return all([is_spent_whole(gains, own_rates, shares, giver) for giver in givers])


def shows_sharing(ground, gains, costs, value):
    """Whether any value is a sharing of the costs."""
    check_gains_and_costs(ground, gains, costs)
    return is_sharing(ground, gains, costs, value)


def paid_at(ground, gains, costs, value, price):
    """The ascending tuple of the parts (from, to, part) of all shares of a sharing that are paid at a price."""
    check_gains_and_costs(ground, gains, costs)
    if not is_sharing(ground, gains, costs, value):
        raise BadSharing()
    check_price(price)
    if price == (0, 1):
        return ()
    own_rates, shares = value
    return tuple([(giver, taker, part_at(share, own_rates[giver], price)) for giver, taker, share in shares])


def part_at(share, rate, price):
    """The part of a share that is paid at a price above 0 by a block with a rate."""
    if is_less(rate, price):
        return share
    return product_fraction(product_fraction(share, price), (rate[1], rate[0]))
