"""What is raised for arguments that belong to a ground.

Each check tells the ground first, since it is the first argument of all functions.
"""

from pitlots.errors import BadCosts, BadGains, BadLot, BadPrice, BadRefills, BadWorths, NotPit
from pitlots.grounds import check_ground, is_block
from pitlots.masks import is_pit_mask, mask_of
from pitlots.ratios import is_fraction
from pitlots.values import are_between, is_lot_below, is_rising, is_tuple_of

GREATEST_WORTH = 50
GREATEST_REFILL = 50
GREATEST_GAIN = 9
GREATEST_COST = 50
GREATEST_PRICE_PART = 1000000


def is_lot(ground, value):
    """Whether a value is a lot of a ground."""
    return is_lot_below(value, len(ground.covers))


def is_pit_of(ground, value):
    """Whether a value is a pit of a ground."""
    return is_lot(ground, value) and is_pit_mask(ground.covers, mask_of(value))


def are_triples(ground, pairs, value):
    """Whether a value is an ascending tuple of triples (from, to, anything): some of the pairs, none of them twice."""
    if not isinstance(value, tuple) or not all([is_tuple_of(triple, 3) for triple in value]):
        return False
    if not all([is_block(ground, giver) and is_block(ground, taker) for giver, taker, _ in value]):
        return False
    ways = [(giver, taker) for giver, taker, _ in value]
    return is_rising(ways) and all([way in pairs for way in ways])


def check_lot(ground, lot):
    """Raise BadLot for what is no lot."""
    check_ground(ground)
    if not is_lot(ground, lot):
        raise BadLot()


def check_pit(ground, pit):
    """Raise BadLot for what is no lot, NotPit for a lot that is no pit."""
    check_lot(ground, pit)
    if not is_pit_of(ground, pit):
        raise NotPit()


def check_worths(ground, worths):
    """Raise BadWorths for what is no worths."""
    check_ground(ground)
    if not are_between(worths, len(ground.covers), -GREATEST_WORTH, GREATEST_WORTH):
        raise BadWorths()


def check_worths_and_refills(ground, worths, refills):
    """Raise BadWorths for what is no worths, then BadRefills for what is no refills."""
    check_worths(ground, worths)
    if not are_between(refills, len(ground.covers), -GREATEST_REFILL, GREATEST_REFILL):
        raise BadRefills()


def check_gains_and_costs(ground, gains, costs):
    """Raise BadGains for what is no gains, then BadCosts for what is no costs."""
    check_ground(ground)
    if not are_between(gains, len(ground.covers), 0, GREATEST_GAIN):
        raise BadGains()
    if not are_between(costs, len(ground.covers), 0, GREATEST_COST):
        raise BadCosts()


def check_price(price):
    """Raise BadPrice for what is no price."""
    if not is_fraction(price) or not are_between(price, 2, 0, GREATEST_PRICE_PART):
        raise BadPrice()
