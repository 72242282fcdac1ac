"""Grounds and values for the tests, and the slow and plain ways that the program is held against.

Nothing here uses the package but for its errors and Ground itself.
"""

from fractions import Fraction
from itertools import combinations, permutations
from math import gcd
from random import Random

from pitlots import errors
from pitlots.grounds import Ground

SHAPES = {
    "one": ((),),
    "two free": ((), ()),
    "four free": ((), (), (), ()),
    "chain": ((), (0,), (1,), (2,), (3,)),
    "chain with short cuts": ((), (0,), (0, 1), (0, 2), (1, 3)),
    "fan below one": ((), (0,), (0,), (0,), (0,)),
    "fan above one": ((), (), (), (), (0, 1, 2, 3)),
    "two layers": ((), (), (), (0, 1), (1, 2), (0, 2)),
    "example": ((), (), (0, 1), (1,)),
    "diamond and one": ((), (0,), (0,), (1, 2), ()),
    "mixed": ((), (), (0,), (0, 1), (2,), (2, 3)),
}
GREAT_SHAPES = {
    "ten free": ((),) * 10,
    "long chain": ((),) + tuple((block,) for block in range(9)),
    "pyramid": ((), (), (), (), (0, 1), (1, 2), (2, 3), (4, 5), (5, 6), (7, 8)),
    "two great layers": ((), (), (), (), (), (0, 1), (1, 2), (2, 3), (3, 4), (0, 4)),
    "comb": ((), (0,), (1,), (2,), (3,), (0,), (1,), (2,), (3,), (4,)),
}


def some_covers(seed, many, most):
    """Some covers of 1 to most blocks, always the same ones for a seed."""
    dice, found = Random(seed), []
    for _ in range(many):
        size, part = dice.randint(1, most), dice.choice((1, 2, 3, 5))
        found.append(tuple(tuple(first for first in range(block) if dice.randint(1, part + 1) == 1)
                           for block in range(size)))
    return found


SMALL = list(SHAPES.values()) + some_covers(11, 12, 6)
MIDDLE = SMALL + some_covers(12, 12, 8)
GREAT = MIDDLE + list(GREAT_SHAPES.values()) + some_covers(13, 5, 10)


def some_row(dice, many, low, high):
    return tuple(dice.randint(low, high) for _ in range(many))


def some_worths(dice, many):
    """Worths that are often 0, small, or as great as can be, so that pits tie."""
    width = dice.choice((1, 2, 3, 10, 50))
    return some_row(dice, many, -width, width)


def some_gains_and_costs(dice, many):
    gains = tuple(dice.choice((0, 0, 1, 2, 3, 9)) for _ in range(many))
    costs = tuple(dice.choice((0, 0, 1, 2, 6, 12, 50)) for _ in range(many))
    return gains, costs


# The plain ways for grounds and pits.

def needed(covers, block):
    """All that a block needs, as a set."""
    found = set()
    for first in covers[block]:
        found |= {first} | needed(covers, first)
    return found


def chains_from(covers, one):
    """All rows of needs that begin with a block."""
    found = [(one,)]
    for first in covers[one]:
        found += [(one,) + row for row in chains_from(covers, first)]
    return found


def all_lots(covers):
    blocks = range(len(covers))
    return [lot for size in range(len(covers) + 1) for lot in combinations(blocks, size)]


def is_closed(covers, lot):
    return all(needed(covers, block) <= set(lot) for block in lot)


PITS = {}


def pits_of(covers):
    """All lots that are pits, in the order that the document tells; kept, since many tests ask."""
    if covers not in PITS:
        needs = [needed(covers, block) for block in range(len(covers))]
        PITS[covers] = [lot for lot in all_lots(covers) if all(needs[block] <= set(lot) for block in lot)]
    return list(PITS[covers])


def worth(amounts, lot):
    return sum(amounts[block] for block in lot)


def best_pits(covers, amounts):
    pits = pits_of(covers)
    most = max(worth(amounts, pit) for pit in pits)
    return [pit for pit in pits if worth(amounts, pit) == most]


def common(lots):
    return tuple(sorted(set.intersection(*[set(lot) for lot in lots])))


def together(lots):
    return tuple(sorted(set.union(*[set(lot) for lot in lots])))


def is_row(covers, row):
    return all(needed(covers, block) <= set(row[:place]) for place, block in enumerate(row))


def rows_of(covers, pit):
    """All rows of a pit, ascending."""
    return [row for row in permutations(pit) if is_row(covers, row)]


def rounds_of(covers, pit, machines, dug=()):
    """All rounds of a pit."""
    left = [block for block in pit if block not in dug]
    if not left:
        return [()]
    free = [block for block in left if needed(covers, block) <= set(dug)]
    found = []
    for size in range(1, machines + 1):
        for lot in combinations(free, size):
            found += [(lot,) + rest for rest in rounds_of(covers, pit, machines, dug + lot)]
    return found


# The plain ways for prices.

def pair(fraction):
    """A Fraction of Python as a fraction of the program."""
    return fraction.numerator, fraction.denominator


def fraction_of(value):
    return Fraction(value[0], value[1])


def amounts_at(gains, costs, price):
    return [gain * Fraction(price) - cost for gain, cost in zip(gains, costs)]


def least_best_at(covers, gains, costs, price):
    return common(best_pits(covers, amounts_at(gains, costs, price)))


def crossings(covers, gains, costs):
    """All prices, ascending, at which two pits are worth the same, and 0."""
    lines = sorted({(worth(gains, pit), worth(costs, pit)) for pit in pits_of(covers)})
    found = {Fraction(0)}
    for one, other in combinations(lines, 2):
        if one[0] != other[0]:
            found.add(Fraction(one[1] - other[1], one[0] - other[0]))
    return sorted(price for price in found if price >= 0)


def rates_of(covers, gains, costs):
    """The rates of all blocks, by all pairs of pits; Fractions, or None."""
    prices = crossings(covers, gains, costs)
    pits = [least_best_at(covers, gains, costs, price) for price in prices]
    last = least_best_at(covers, gains, costs, prices[-1] + 1)
    return [max(price for price, pit in zip(prices, pits) if block not in pit) if block in last else None
            for block in range(len(covers))]


# What is wrong as a value, and which error it has where.

WRONG = (
    -1, 0, 1, 2, 3, 4, 5, 9, 10, 11, 20, 21, 50, 51, 500, 501, 1000001, -50, -51, 2 ** 64, -2 ** 64, 10 ** 400,
    "", "0", "best", "(0,)", True, False, None,
    (), (0,), (1,), (0, 1), (1, 0), (0, 0), (1, 1), (3,), (4,), (10,), (-1,), (2, 4), (0, 1, 2, 3), (3, 2, 1, 0),
    (True,), (False,), (False, True), (0, True), (0, None), (0, "1"), ("0", "1"), (None,), ((),), ((0,),), ((0, 1),),
    ((), ()), ((0,), (1,)), ((0, 1, 1),), ((True, 0, 1),), ((2, 0, (1, 1)),), (0, 0, 0, 0), (0, 0, 0, True),
    (0, 0, 0, "0"), (0, 0, 0, None), (0, 0, 0), (0, 0, 0, 0, 0), (0, 0, 0, 50), (0, 0, 0, 51), (-50, 0, 0, 0),
    (-51, 0, 0, 0), (9, 0, 0, 0), (10, 0, 0, 0), (0, 0, 0, -1), (0, 0, 0, (0,)), (0, 0, 0, 10 ** 400),
    (1, 2), (2, 1), (0, 2), (2, 4), (1, 0), (1, -1), (-1, 1), (True, 1), (1, True), (1000000, 1), (1, 1000000),
    (1000001, 1), (1, 1000001), (1, 1, 1), ("1", 1), (1, None), ((1, 1), (1, 1)), (10 ** 400, 1),
    [], [0], [0, 1], [0, 0, 0, 0], [[0]], [(0, 1)], [()], {}, {0: 0}, {0: 0, 1: 0}, {"best": ()}, {(): ()},
    (0, [1]), ([0],), ([], []), ({},), (0, {1: 1}), ((((0,),),),), [[[{}]]], ("best", ()), ("better", (0,)),
)


def is_integer(value):
    return isinstance(value, int) and value is not True and value is not False


def is_from_to(value, low, high):
    return is_integer(value) and low <= value <= high


def is_tuple_from_to(value, many, low, high):
    return isinstance(value, tuple) and len(value) == many and all(is_from_to(item, low, high) for item in value)


def is_lot(covers, value):
    if not isinstance(value, tuple) or not all(is_from_to(item, 0, len(covers) - 1) for item in value):
        return False
    return list(value) == sorted(set(value))


def is_price(value):
    return is_tuple_from_to(value, 2, 0, 10 ** 6) and value[1] >= 1 and gcd(value[0], value[1]) == 1


def is_order(covers, value, pit):
    if not isinstance(value, tuple) or not all(is_integer(item) for item in value):
        return False
    return sorted(value) == list(pit) and is_row(covers, value)


def lot_fault(covers, value):
    return None if is_lot(covers, value) else errors.BadLot


def pit_fault(covers, value):
    if not is_lot(covers, value):
        return errors.BadLot
    return None if is_closed(covers, value) else errors.NotPit


def numbers_fault(error, low, high):
    """Tells the fault of a value that should be an integer from low to high."""
    return lambda covers, value: None if is_from_to(value, low, high) else error


def tuples_fault(error, low, high):
    """Tells the fault of a value that should be a tuple of an integer from low to high for each block."""
    return lambda covers, value: None if is_tuple_from_to(value, len(covers), low, high) else error


# For each kind of argument what tells the error of a value, by the covers of the ground; None for a value that fits.
FAULTS = {
    "ground": lambda covers, value: None if isinstance(value, Ground) else errors.BadGround,
    "block": lambda covers, value: None if is_from_to(value, 0, len(covers) - 1) else errors.BadBlock,
    "order": lambda covers, value: None if is_order(covers, value, range(len(covers))) else errors.BadOrder,
    "lot": lot_fault,
    "pit": pit_fault,
    "worths": tuples_fault(errors.BadWorths, -50, 50),
    "gains": tuples_fault(errors.BadGains, 0, 9),
    "costs": tuples_fault(errors.BadCosts, 0, 50),
    "growths": tuples_fault(errors.BadGrowths, 0, 9),
    "price": lambda covers, value: None if is_price(value) else errors.BadPrice,
    "target": numbers_fault(errors.BadTarget, 0, 500),
    "years": numbers_fault(errors.BadYears, 0, 20),
    "purse": numbers_fault(errors.BadPurse, 0, 500),
    "purse_from_1": numbers_fault(errors.BadPurse, 1, 500),
    "machines": numbers_fault(errors.BadMachines, 1, 4),
    "rounds": numbers_fault(errors.BadRounds, 0, 10),
    # These two are asked for the example ground and its whole pit alone, which has five rows.
    "number": numbers_fault(errors.BadPlace, 0, 4),
    "row": lambda covers, value: None if is_order(covers, value, (0, 1, 2, 3)) else errors.BadRow,
    # No wrong value here is a sharing of the costs that the calls tell.
    "sharing": lambda covers, value: errors.BadSharing,
    "any": lambda covers, value: None,
}
