"""Grounds and values for the tests, and the slow and plain ways that the program is held against.

Nothing here uses the package.
"""

from fractions import Fraction
from itertools import combinations, permutations, product
from random import Random

SHAPES = {
    "one": ((),),
    "two free": ((), ()),
    "four free": ((), (), (), ()),
    "chain": ((), (0,), (1,), (2,), (3,)),
    "chain with short cuts": ((), (0,), (0, 1), (0, 2), (1, 3)),
    "fan below one": ((), (0,), (0,), (0,), (0,)),
    "fan above one": ((), (), (), (), (0, 1, 2, 3)),
    "two layers": ((), (), (), (0, 1), (1, 2), (0, 2)),
    "example": ((), (), (0, 1), (1,)),
    "diamond and one": ((), (0,), (0,), (1, 2), ()),
    "mixed": ((), (), (0,), (0, 1), (2,), (2, 3)),
}
GREAT_SHAPES = {
    "ten free": ((),) * 10,
    "long chain": ((),) + tuple((block,) for block in range(9)),
    "pyramid": ((), (), (), (), (0, 1), (1, 2), (2, 3), (4, 5), (5, 6), (7, 8)),
    "two great layers": ((), (), (), (), (), (0, 1), (1, 2), (2, 3), (3, 4), (0, 4)),
    "comb": ((), (0,), (1,), (2,), (3,), (0,), (1,), (2,), (3,), (4,)),
}


def some_covers(seed, many, most):
    """Some covers of 1 to most blocks, always the same ones for a seed."""
    dice, found = Random(seed), []
    for _ in range(many):
        size, part = dice.randint(1, most), dice.choice((1, 2, 3, 5))
        found.append(tuple(tuple(first for first in range(block) if dice.randint(1, part + 1) == 1)
                           for block in range(size)))
    return found


SMALL = list(SHAPES.values()) + some_covers(11, 12, 6)
MIDDLE = SMALL + some_covers(12, 12, 8)
GREAT = MIDDLE + list(GREAT_SHAPES.values()) + some_covers(13, 5, 10)


def some_row(dice, many, low, high):
    return tuple(dice.randint(low, high) for _ in range(many))


def some_worths(dice, many):
    """Worths that are often 0, small, or as great as can be, so that pits tie."""
    width = dice.choice((1, 2, 3, 10, 50))
    return some_row(dice, many, -width, width)


def some_gains_and_costs(dice, many):
    gains = tuple(dice.choice((0, 0, 1, 2, 3, 9)) for _ in range(many))
    costs = tuple(dice.choice((0, 0, 1, 2, 6, 12, 50)) for _ in range(many))
    return gains, costs


# The plain ways for grounds and pits.

def needed(covers, block):
    """All that a block needs, as a set."""
    found = set()
    for first in covers[block]:
        found |= {first} | needed(covers, first)
    return found


def chains_from(covers, one):
    """All rows of needs that begin with a block."""
    found = [(one,)]
    for first in covers[one]:
        found += [(one,) + row for row in chains_from(covers, first)]
    return found


def all_lots(covers):
    blocks = range(len(covers))
    return [lot for size in range(len(covers) + 1) for lot in combinations(blocks, size)]


def is_closed(covers, lot):
    return all(needed(covers, block) <= set(lot) for block in lot)


PITS = {}


def pits_of(covers):
    """All lots that are pits, in the order that the document tells; kept, since many tests ask."""
    if covers not in PITS:
        needs = [needed(covers, block) for block in range(len(covers))]
        PITS[covers] = [lot for lot in all_lots(covers) if all(needs[block] <= set(lot) for block in lot)]
    return list(PITS[covers])


def worth(amounts, lot):
    return sum(amounts[block] for block in lot)


def best_pits(covers, amounts):
    pits = pits_of(covers)
    most = max(worth(amounts, pit) for pit in pits)
    return [pit for pit in pits if worth(amounts, pit) == most]


def common(lots):
    return tuple(sorted(set.intersection(*[set(lot) for lot in lots])))


def together(lots):
    return tuple(sorted(set.union(*[set(lot) for lot in lots])))


def is_row(covers, row):
    return all(needed(covers, block) <= set(row[:place]) for place, block in enumerate(row))


def rows_of(covers, pit):
    """All rows of a pit, ascending."""
    return [row for row in permutations(pit) if is_row(covers, row)]


def rounds_of(covers, pit, machines, dug=()):
    """All rounds of a pit."""
    left = [block for block in pit if block not in dug]
    if not left:
        return [()]
    free = [block for block in left if needed(covers, block) <= set(dug)]
    found = []
    for size in range(1, machines + 1):
        for lot in combinations(free, size):
            found += [(lot,) + rest for rest in rounds_of(covers, pit, machines, dug + lot)]
    return found


# The plain ways for prices.

def pair(fraction):
    """A Fraction of Python as a fraction of the program."""
    return fraction.numerator, fraction.denominator


def fraction_of(value):
    return Fraction(value[0], value[1])


def amounts_at(gains, costs, price):
    return [gain * Fraction(price) - cost for gain, cost in zip(gains, costs)]


def least_best_at(covers, gains, costs, price):
    return common(best_pits(covers, amounts_at(gains, costs, price)))


def crossings(covers, gains, costs):
    """All prices, ascending, at which two pits are worth the same, and 0."""
    lines = sorted({(worth(gains, pit), worth(costs, pit)) for pit in pits_of(covers)})
    found = {Fraction(0)}
    for one, other in combinations(lines, 2):
        if one[0] != other[0]:
            found.add(Fraction(one[1] - other[1], one[0] - other[0]))
    return sorted(price for price in found if price >= 0)


def rates_of(covers, gains, costs):
    """The rates of all blocks, by all pairs of pits; Fractions, or None."""
    prices = crossings(covers, gains, costs)
    pits = [least_best_at(covers, gains, costs, price) for price in prices]
    last = least_best_at(covers, gains, costs, prices[-1] + 1)
    return [max(price for price, pit in zip(prices, pits) if block not in pit) if block in last else None
            for block in range(len(covers))]


# The plain ways for doubled grounds, and for cases of bounds or choices.

def doubled(covers):
    """The covers of a doubled ground, by names of its blocks."""
    names = [(word, block) for block in range(len(covers)) for word in ("dug", "open")]
    found = []
    for word, block in names:
        firsts = [(word, first) for first in covers[block]] + ([("dug", block)] if word == "open" else [])
        found.append(tuple(sorted(names.index(first) for first in firsts)))
    return tuple(found)


def cases_of(choices):
    return list(product(*choices))


def known_pits(covers, choices):
    """The pits that are best in all cases."""
    best = [set(best_pits(covers, case)) for case in cases_of(choices)]
    return [pit for pit in pits_of(covers) if all(pit in some for some in best)]


def some_choices(dice, many, cases):
    """Choices of at most so many cases."""
    width, found = dice.choice((2, 3, 6, 50)), []
    for _ in range(many):
        worths = dice.sample(range(-width, width + 1), dice.choice((1, 1, 2, 3)))
        if len(worths) > cases:
            worths = worths[:1]
        cases //= len(worths)
        found.append(tuple(sorted(worths)))
    dice.shuffle(found)
    return tuple(found)


# The plain ways for owners.

PARTIES = [party for size in range(5) for party in combinations(range(4), size)]


def pits_alone(covers, owners, party):
    return [pit for pit in pits_of(covers) if all(owners[block] in party for block in pit)]


def gain(covers, worths, owners, party):
    return max(worth(worths, pit) for pit in pits_alone(covers, owners, party))


def some_owners(dice, many):
    """Owners of which some are often without blocks."""
    few = dice.sample(range(4), dice.randint(1, 4))
    return tuple(dice.choice(few) for _ in range(many))


# The plain ways for joins and drawings: grounds as dicts from names to the sets of names that are needed first.

def first_of(firsts):
    """All names in the least order, the dict's own order telling which is first; None if some need one another."""
    found = []
    while len(found) < len(firsts):
        for name in firsts:
            if name not in found and firsts[name] <= set(found):
                found.append(name)
                break
        else:
            return None
    return found


def covers_in(firsts, order):
    return tuple(tuple(sorted(order.index(first) for first in firsts[name])) for name in order)


def join(one, other, shared):
    """The names of a join in its order, with what they need first; None if there is a ring."""
    twins = {("other", twin): ("one", block) for block, twin in shared}
    firsts = {("one", block): {("one", first) for first in needs} for block, needs in enumerate(one)}
    for block, needs in enumerate(other):
        name = twins.get(("other", block), ("other", block))
        firsts.setdefault(name, set()).update(twins.get(("other", first), ("other", first)) for first in needs)
    order = first_of(firsts)
    return order and (order, firsts)


# The plain ways for digs and logs.

DIGS = {}


def digs_of(covers):
    """All digs, ascending; kept, since many tests ask."""
    if covers not in DIGS:
        found, level = [], [()]
        while level:
            found += level
            level = [dig + (block,) for dig in level for block in range(len(covers))
                     if block not in dig and needed(covers, block) <= set(dig)]
        DIGS[covers] = sorted(found)
    return DIGS[covers]


def unlike(dig, log):
    """The indexes of the entries of a log that a dig is unlike, None if it is of another length."""
    found, place = [], 0
    for index, entry in enumerate(log):
        if entry[0] in ("dug", "lost"):
            if place == len(dig):
                return None
            if entry[0] == "dug" and entry[1] != dig[place]:
                found.append(index)
            place += 1
        elif (entry[1] in dig[:place]) != (entry[0] == "is"):
            found.append(index)
    return tuple(found) if place == len(dig) else None


def fitting(covers, log):
    """All digs that fit a log, ascending."""
    return [dig for dig in digs_of(covers) if unlike(dig, log) == ()]


def some_log(dice, covers, wrong):
    """A log of some dig, with gaps; each entry is another one with a chance of wrong in ten."""
    log, dug, lost = [], [], 0
    for block in dice.choice(digs_of(covers)):
        while dice.randint(0, 4) < 2 and len(log) < 15:
            seen = dice.randrange(len(covers))
            log.append(("is" if seen in dug else "not", seen))
        if dice.randint(0, 1) == 0 and lost < 5:
            log.append(("lost",))
            lost += 1
        else:
            log.append(("dug", block))
        dug.append(block)
    for index, entry in enumerate(log):
        if entry != ("lost",) and dice.randint(1, 10) <= wrong:
            log[index] = (dice.choice(("dug", "is", "not")), dice.randrange(len(covers)))
    return tuple(log)


# The plain ways for hauls.

def histories(hauls):
    """All that can have been: lists of what lay on the heaps behind each haul, a tuple of five sets of blocks."""
    found = [[(frozenset(),) * 5]]
    for word, *told in hauls:
        longer = []
        for history in found:
            if word == "put":
                block, heap = told
                choices = [(heap, heap, {block})]
            else:
                heap, other, many = told
                choices = [(heap, other, set(some)) for some in combinations(sorted(history[-1][heap]), many)]
            for heap, other, some in choices:
                heaps = list(history[-1])
                heaps[heap] -= some
                heaps[other] |= some
                longer.append(history + [tuple(heaps)])
        found = longer
    return [history[1:] for history in found]


def some_hauls(dice, covers, most):
    """Hauls of which there are at most so many histories."""
    hauls, many, heaps, length = [], 1, [0] * 5, dice.randint(4, 10)
    left = list(max([dice.choice(digs_of(covers)) for _ in range(3)], key=len))
    while len(hauls) < length:
        full = [heap for heap in range(4) if heaps[heap]]
        if full and (not left or dice.randint(0, 2)):
            heap = dice.choice(full)
            some = dice.choice((1, heaps[heap], dice.randint(1, heaps[heap])))
            many *= len(list(combinations(range(heaps[heap]), some)))
            if many > most:
                break
            hauls.append(("move", heap, dice.choice([other for other in range(5) if other != heap]), some))
            heaps[heap] -= some
        elif left:
            hauls.append(("put", left.pop(0), dice.choice((0, 0, 1, 2, 4))))
            some = 1
        else:
            break
        heaps[hauls[-1][2]] += some
    return tuple(hauls)


# The plain ways for arms and tables.

class Digging:
    """What arms have done, deed by deed; may tells whether an arm can go on, go lets it."""

    def __init__(self, covers, arms):
        self.covers, self.arms = covers, arms
        self.dug, self.places, self.stands = set(), [0] * len(arms), [None] * len(arms)

    def may(self, arm):
        if self.places[arm] == len(self.arms[arm]):
            return False
        word, *block = self.arms[arm][self.places[arm]]
        if word == "leave":
            return self.stands[arm] is not None
        if word == "wait":
            return block[0] in self.dug
        if word == "stand":
            return block[0] not in self.dug and self.stands[arm] is None
        return block[0] not in self.dug | set(self.stands) and set(self.covers[block[0]]) <= self.dug

    def go(self, arm):
        word, *block = self.arms[arm][self.places[arm]]
        self.places[arm] += 1
        if word == "dig":
            self.dug.add(block[0])
        elif word == "stand":
            self.stands[arm] = block[0]
        elif word == "leave":
            self.stands[arm] = None


def behind(covers, arms, turns):
    """The digging behind turns."""
    digging = Digging(covers, arms)
    for arm in turns:
        digging.go(arm)
    return digging


def next_arms(covers, arms, turns):
    digging = behind(covers, arms, turns)
    return [arm for arm in range(len(arms)) if digging.may(arm)]


def turns_of(covers, arms, turns=()):
    """All turns that begin with some, those that cannot go on, and the others, too."""
    found = [turns]
    for arm in next_arms(covers, arms, turns):
        found += turns_of(covers, arms, turns + (arm,))
    return found


def keeps(rules, depths):
    return all(-second <= depths[place] - depths[place + 1] <= first for place, (first, second) in enumerate(rules))


def profiles(columns, rules):
    """All profiles, ascending."""
    return [depths for depths in product(*[range(most + 1) for most in columns]) if keeps(rules, depths)]


def cells(columns):
    """All cells (depth, column), in the order of their blocks."""
    return sorted((depth, column) for column, most in enumerate(columns) for depth in range(1, most + 1))


def covers_of(columns, rules):
    """What the cells of a table need first, by all profiles."""
    found, every = [], profiles(columns, rules)
    for depth, column in cells(columns):
        dug = [depths for depths in every if depths[column] >= depth]
        ahead = [(min(depths[other] for depths in dug), other) for other in (column - 1, column + 1)
                 if 0 <= other < len(columns)]
        firsts = [cells(columns).index(cell) for cell in [(depth - 1, column)] + ahead if cell[0] > 0]
        found.append(tuple(sorted(firsts)))
    return tuple(found)


def some_tables(seed, many):
    """Some pairs of columns and rules by which they can be dug whole, always the same ones for a seed."""
    dice, found = Random(seed), []
    while len(found) < many:
        columns = tuple(dice.randint(1, 5) for _ in range(dice.randint(1, 5)))
        greatest = dice.choice((1, 2, 3, 9))
        rules = tuple((dice.randint(1, greatest), dice.randint(1, greatest)) for _ in columns[1:])
        if sum(columns) <= 10 and keeps(rules, columns):
            found.append((columns, rules))
    return found


TABLES = [
    ((1,), ()), ((10,), ()), ((1, 1), ((1, 1),)), ((5, 5), ((1, 1),)), ((5, 5), ((9, 9),)), ((9, 1), ((8, 1),)),
    ((1, 9), ((1, 8),)), ((2, 2, 2, 2, 2), ((1, 1),) * 4), ((2, 2, 2, 2, 2), ((9, 9),) * 4),
    ((2, 3, 1), ((1, 1), (2, 1))),
    ((1, 2, 3, 3, 1), ((1, 1), (1, 1), (1, 1), (2, 1))), ((3, 1, 3, 1, 2), ((2, 1), (1, 2), (2, 1), (1, 1))),
    ((4, 3, 2, 1), ((1, 9), (1, 9), (1, 9))), ((1, 2, 3, 4), ((1, 1),) * 3),
] + some_tables(25, 30)
