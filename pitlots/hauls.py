"""Hauls of loads to heaps, and where loads may lie when it is not told which were moved."""

from pitlots.checks import check_lot
from pitlots.errors import BadHauls, BadHeap
from pitlots.grounds import check_block, check_ground, is_block
from pitlots.masks import is_free
from pitlots.values import is_between, is_tuple_of

MANY_HEAPS = 5
MOST_HAULS = 16
NO_LOADS = (0, 0, 0, 0, 0)


def is_heap(value):
    """Whether a value is a heap."""
    return is_between(value, 0, MANY_HEAPS - 1)


def check_heap(heap):
    """Raise BadHeap for what is no heap."""
    if not is_heap(heap):
        raise BadHeap()


def with_more(loads_lying, heap, many):
    """What lies on all heaps when so many loads more lie on one of them."""
    return loads_lying[:heap] + (loads_lying[heap] + many,) + loads_lying[heap + 1:]


def lying_behind(lying, haul):
    """How many loads lie on each heap behind a haul, by how many lay there ahead of it."""
    if haul[0] == "put":
        return with_more(lying, haul[2], 1)
    _, heap, other, many = haul
    return with_more(with_more(lying, heap, -many), other, many)


def can_be_put(ground, dug, value):
    """Whether a value is a haul of a block that can be dug behind those of a mask."""
    if not is_tuple_of(value, 3) or value[0] != "put" or not is_block(ground, value[1]) or not is_heap(value[2]):
        return False
    return is_free(ground.covers, dug, value[1])


def can_be_moved(lying, value):
    """Whether a value is a haul from a heap to another one, of no more loads than lie there."""
    if not is_tuple_of(value, 4) or value[0] != "move" or not is_heap(value[1]) or not is_heap(value[2]):
        return False
    # The last heap is one from which nothing is moved.
    if value[1] == MANY_HEAPS - 1 or value[1] == value[2]:
        return False
    return is_between(value[3], 1, lying[value[1]])


def check_hauls(ground, hauls):
    """Raise BadHauls for what is no hauls."""
    check_ground(ground)
    if not isinstance(hauls, tuple) or len(hauls) > MOST_HAULS:
        raise BadHauls(None)
    dug, lying = 0, NO_LOADS
    for index, haul in enumerate(hauls):
        if not can_be_put(ground, dug, haul) and not can_be_moved(lying, haul):
            raise BadHauls(index)
        if haul[0] == "put":
            dug |= 1 << haul[1]
        lying = lying_behind(lying, haul)


def steps_of(hauls):
    """The list of the pairs (haul, how many loads lie on each heap ahead of it)."""
    steps, lying = [], NO_LOADS
    for haul in hauls:
        steps.append((haul, lying))
        lying = lying_behind(lying, haul)
    return steps


def steps_from_put(hauls, block):
    """The steps from a block's put on, [] if it was not put."""
    places = [place for place, haul in enumerate(hauls) if haul[:2] == ("put", block)]
    return steps_of(hauls)[places[0]:] if places else []


def next_heaps(haul, lying, heap):
    """The list of the heaps on which a load that lies on a heap ahead of a haul can lie behind it."""
    if haul[0] == "put" or haul[1] != heap:
        return [heap]
    return [haul[2]] if haul[3] == lying[heap] else [heap, haul[2]]


def least_ways(hauls, block):
    """A dict from each heap on which a block's load may lie behind all hauls to the least way to it."""
    ways = {}
    for haul, lying in steps_from_put(hauls, block):
        if not ways:
            ways = {haul[2]: (haul[2],)}
            continue
        longer = {}
        for heap, way in ways.items():
            for other in next_heaps(haul, lying, heap):
                longer[other] = min(longer.get(other, way + (other,)), way + (other,))
        ways = longer
    return ways


def spoilt_behind(found, haul, lying, lot):
    """A dict of all tuples of how many loads of a lot can lie on each heap behind a haul, by those ahead of it."""
    if haul[0] == "put":
        return {with_more(spoilt_ones, haul[2], 1 if haul[1] in lot else 0): True for spoilt_ones in found}
    _, heap, other, many = haul
    behind = {}
    for ahead in found:
        clean = lying[heap] - ahead[heap]
        for some in range(max(0, many - clean), min(many, ahead[heap]) + 1):
            behind[with_more(with_more(ahead, heap, -some), other, some)] = True
    return behind


def ranges_of(hauls, lot):
    """For each heap the pair of the least and the greatest number of loads of a lot that can lie on it behind all."""
    found = {NO_LOADS: True}
    for haul, lying in steps_of(hauls):
        found = spoilt_behind(found, haul, lying, lot)
    numbers = [[ways[heap] for ways in found] for heap in range(MANY_HEAPS)]
    return [(min(some), max(some)) for some in numbers]


def loads(ground, hauls):
    """The tuple of how many loads lie on each heap behind all hauls."""
    check_hauls(ground, hauls)
    lying = NO_LOADS
    for haul in hauls:
        lying = lying_behind(lying, haul)
    return lying


def may_lie(ground, hauls, block):
    """The ascending tuple of the heaps on which a block's load may lie, () if it was not put."""
    check_hauls(ground, hauls)
    check_block(ground, block)
    return tuple(sorted(list(least_ways(hauls, block))))


def recalled(ground, hauls, lot):
    """The ascending tuple of the heaps on which a load of some block of a lot may lie."""
    check_hauls(ground, hauls)
    check_lot(ground, lot)
    return tuple([heap for heap, (_, most) in enumerate(ranges_of(hauls, lot)) if most > 0])


def spoilt(ground, hauls, lot):
    """The ascending tuple of the heaps on which a load of some block of a lot lies, whatever was moved."""
    check_hauls(ground, hauls)
    check_lot(ground, lot)
    return tuple([heap for heap, (fewest, _) in enumerate(ranges_of(hauls, lot)) if fewest > 0])


def spoilt_range(ground, hauls, lot, heap):
    """The pair of the least and the greatest number of loads of blocks of a lot that can lie on a heap."""
    check_hauls(ground, hauls)
    check_lot(ground, lot)
    check_heap(heap)
    return ranges_of(hauls, lot)[heap]


def way_to(ground, hauls, block, heap):
    """The least way of a block's load whose last heap is a told one, None if there is none."""
    check_hauls(ground, hauls)
    check_block(ground, block)
    check_heap(heap)
    return least_ways(hauls, block).get(heap)


def shows_way(ground, hauls, block, value):
    """Whether any value is a way of a block's load."""
    check_hauls(ground, hauls)
    check_block(ground, block)
    steps = steps_from_put(hauls, block)
    if not steps or not is_tuple_of(value, len(steps)) or not all([is_heap(heap) for heap in value]):
        return False
    if value[0] != steps[0][0][2]:
        return False
    return all([other in next_heaps(haul, lying, heap)
                for heap, other, (haul, lying) in zip(value, value[1:], steps[1:])])
