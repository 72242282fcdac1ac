"""The best pits at all prices: rates of blocks, the ladder, its layers, and pits by year."""

from pitlots.checks import GREATEST_GAIN, check_gains_and_costs, check_price
from pitlots.errors import BadGrowths, BadYears
from pitlots.masks import best_masks, common_mask, lot_of, pit_sums
from pitlots.prices import scaled_worths
from pitlots.ratios import least_fraction, reduced
from pitlots.values import are_between, is_between

MOST_YEARS = 20


def rung_above(gained, spent, pit):
    """The next (rate, pit) of the ladder above a pit, None if there is none.

    gained and spent are dicts from each pit to its gains and its costs together; the pit told is a best one at some
    price, and no best one at a greater price has less gain.
    """
    rising = [other for other in gained if gained[other] > gained[pit]]
    if not rising:
        return None
    rates_by_pit = {other: reduced(spent[other] - spent[pit], gained[other] - gained[pit]) for other in rising}
    rate = least_fraction(list(rates_by_pit.values()))
    # Of the pits that are best at the rate just those with the most gain stay best above it.
    most = max([gained[other] for other in rising if rates_by_pit[other] == rate])
    best = [other for other in rising if rates_by_pit[other] == rate and gained[other] == most]
    return rate, common_mask(best)


def rungs(covers, gains, costs):
    """The list of all (rate, pit as a mask) of the ladder, by ascending rates."""
    gained, spent = pit_sums(covers, gains), pit_sums(covers, costs)
    found = []
    rung = rung_above(gained, spent, 0)
    while rung is not None:
        found.append(rung)
        rung = rung_above(gained, spent, rung[1])
    return found


def rates(ground, gains, costs):
    """The tuple of the rates of all blocks, None for a block without one."""
    check_gains_and_costs(ground, gains, costs)
    found = {}
    for rate, pit in rungs(ground.covers, gains, costs):
        for block in lot_of(pit):
            found.setdefault(block, rate)
    return tuple([found.get(block) for block in range(len(ground.covers))])


def ladder(ground, gains, costs):
    """The list of all (rate, pit), by ascending rates: the least best pit at prices just above each rate."""
    check_gains_and_costs(ground, gains, costs)
    return [(rate, lot_of(pit)) for rate, pit in rungs(ground.covers, gains, costs)]


def layers(ground, gains, costs):
    """The list of all (rate, lot), by ascending rates: the blocks that have each rate."""
    check_gains_and_costs(ground, gains, costs)
    found, ahead = [], 0
    for rate, pit in rungs(ground.covers, gains, costs):
        found.append((rate, lot_of(pit & ~ahead)))
        ahead = pit
    return found


def pits_by_year(ground, gains, costs, price, growths, years):
    """The list of the least best pits at a price, ahead of the first year and behind each of so many years."""
    check_gains_and_costs(ground, gains, costs)
    check_price(price)
    if not are_between(growths, len(ground.covers), 0, GREATEST_GAIN):
        raise BadGrowths()
    if not is_between(years, 0, MOST_YEARS):
        raise BadYears()
    found = []
    for year in range(years + 1):
        grown = [gain + year * growth for gain, growth in zip(gains, growths)]
        found.append(lot_of(common_mask(best_masks(ground.covers, scaled_worths(grown, costs, price)))))
    return found
