"""Grounds that are parted, blocks that are drawn together, and grounds that are alike."""

from pitlots.checks import check_lot, check_pit
from pitlots.errors import EmptyLot, NotTogether
from pitlots.grounds import Ground, check_ground
from pitlots.masks import first_masks, joint_mask, lot_of, mask_of, need_masks
from pitlots.orders import covers_by, least_order, places_by
from pitlots.pits import all_pits


def cut_out(covers, blocks):
    """The ground of some blocks, in their order, of what they need among themselves."""
    names = {block: name for name, block in enumerate(blocks)}
    return Ground(tuple([tuple([names[first] for first in covers[block] if first in names]) for block in blocks]))


def parted(ground, pit):
    """The pair of the ground of the blocks of a pit, and of that of all others when the pit is dug."""
    check_pit(ground, pit)
    rest = [block for block in range(len(ground.covers)) if block not in pit]
    if not pit or not rest:
        raise EmptyLot()
    return cut_out(ground.covers, pit), cut_out(ground.covers, rest)


def check_together(ground, lot):
    """Raise BadLot, EmptyLot, then NotTogether for a lot that cannot be drawn together."""
    check_lot(ground, lot)
    if not lot:
        raise EmptyLot()
    needs = need_masks(ground.covers)
    needed = joint_mask([needs[block] for block in lot])
    for block in range(len(needs)):
        if block not in lot and needed >> block & 1 and needs[block] & mask_of(lot):
            raise NotTogether()


def drawn_and_places(ground, lot):
    """The ground in which a lot is one block, and the tuple of which block of it each block becomes."""
    kept = [block for block in range(len(ground.covers)) if block == lot[0] or block not in lot]
    nodes = [kept.index(lot[0] if block in lot else block) for block in range(len(ground.covers))]
    firsts = [[] for _ in kept]
    for node, needs in zip(nodes, ground.covers):
        firsts[node].extend([nodes[first] for first in needs if nodes[first] != node])
    order = least_order(firsts)
    found = places_by(order)
    return Ground(covers_by(firsts, order)), tuple([found[node] for node in nodes])


def drawn(ground, lot):
    """The ground in which the blocks of a lot are one block."""
    check_together(ground, lot)
    return drawn_and_places(ground, lot)[0]


def drawn_to(ground, lot):
    """The tuple of which block of the drawn ground each block becomes."""
    check_together(ground, lot)
    return drawn_and_places(ground, lot)[1]


def pits_with(ground, lot):
    """The list of the pits that have all blocks of a lot or none, the smaller first, those of one size ascending."""
    check_together(ground, lot)
    whole = mask_of(lot)
    return [pit for pit in all_pits(ground) if mask_of(pit) & whole in (0, whole)]


def kinships(covers):
    """For each two blocks, also one and the same, how they stand to one another; no other names change it.

    It is whether the one needs the other first, or is needed first by it, and how many blocks both need first, and
    how many need both first.
    """
    firsts = first_masks(covers)
    blocks = list(range(len(covers)))
    befores = [mask_of([other for other in blocks if firsts[other] >> block & 1]) for block in blocks]
    return [[(firsts[one] >> other & 1, befores[one] >> other & 1,
              len(lot_of(firsts[one] & firsts[other])), len(lot_of(befores[one] & befores[other])))
             for other in blocks] for one in blocks]


def least_match(mine, theirs, order):
    """The least order of all blocks that begins with one and keeps all kinships, None if there is none."""
    place = len(order)
    if place == len(mine):
        return order
    # Blocks whose kinships all together are not the same cannot match, whichever blocks come behind them.
    near = [block for block in range(len(mine)) if sorted(mine[block]) == sorted(theirs[place])]
    for block in [block for block in near if block not in order]:
        longer = order + (block,)
        if all([mine[block][one] == theirs[place][at] for at, one in enumerate(longer)]):
            found = least_match(mine, theirs, longer)
            if found is not None:
                return found
    return None


def alike(one, other):
    """The least order of the blocks of one ground by which it is another one when renamed, None if there is none."""
    check_ground(one)
    check_ground(other)
    mine, theirs = kinships(one.covers), kinships(other.covers)
    if sorted([sorted(row) for row in mine]) != sorted([sorted(row) for row in theirs]):
        return None
    return least_match(mine, theirs, ())
