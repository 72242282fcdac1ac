"""Payments from blocks of worth to the costly ones that they need: they show which pits are best."""

from pitlots.checks import are_triples, check_pit, check_worths, is_pit_of
from pitlots.flows import greatest_flow
from pitlots.masks import best_masks, common_mask, lot_of, mask_of, need_masks, sum_of
from pitlots.values import is_tuple_of, is_whole


def paying_pairs(covers, worths):
    """The list of all (from, to): from is worth more than 0, and needs to, which is worth less than 0."""
    needs = need_masks(covers)
    rich = [block for block in range(len(covers)) if worths[block] > 0]
    return [(block, other) for block in rich for other in lot_of(needs[block]) if worths[other] < 0]


def paid_by(value, block):
    """What a block pays together, by some triples."""
    return sum([many for giver, _, many in value if giver == block])


def got_by(value, block):
    """What a block gets together, by some triples."""
    return sum([many for _, taker, many in value if taker == block])


def are_payments_of(ground, worths, value):
    """Whether any value is payments, by worths that were checked."""
    if not are_triples(ground, paying_pairs(ground.covers, worths), value):
        return False
    if not all([is_whole(many) and many >= 1 for giver, taker, many in value]):
        return False
    return all([paid_by(value, block) <= max(worth, 0) and got_by(value, block) <= max(-worth, 0)
                for block, worth in enumerate(worths)])


def are_payments(ground, worths, value):
    """Whether any value is payments."""
    check_worths(ground, worths)
    return are_payments_of(ground, worths, value)


def payments(ground, worths):
    """Payments with the greatest sum."""
    check_worths(ground, worths)
    gives = {block: worth for block, worth in enumerate(worths) if worth > 0}
    takes = {block: -worth for block, worth in enumerate(worths) if worth < 0}
    return tuple(greatest_flow(gives, takes, paying_pairs(ground.covers, worths)))


def shows_best(ground, worths, pit, value):
    """Whether any value is payments that show that a pit is best."""
    check_worths(ground, worths)
    check_pit(ground, pit)
    if not are_payments_of(ground, worths, value):
        return False
    inside = tuple([triple for triple in value if triple[0] in pit])
    for block, worth in enumerate(worths):
        if block in pit and worth < 0 and got_by(inside, block) != -worth:
            return False
        if block not in pit and worth > 0 and paid_by(value, block) != worth:
            return False
    return True


def verdict(ground, worths, pit):
    """("best", payments that show it) for a best pit, otherwise ("better", the least best pit)."""
    check_worths(ground, worths)
    check_pit(ground, pit)
    best = best_masks(ground.covers, worths)
    if mask_of(pit) in best:
        return "best", payments(ground, worths)
    return "better", lot_of(common_mask(best))


def shows_verdict(ground, worths, pit, value):
    """Whether any value is a verdict that holds: payments that show it, or whatever pit that is worth more."""
    check_worths(ground, worths)
    check_pit(ground, pit)
    if not is_tuple_of(value, 2):
        return False
    word, proof = value
    if word == "best":
        return shows_best(ground, worths, pit, proof)
    if word == "better" and is_pit_of(ground, proof):
        return sum_of(worths, mask_of(proof)) > sum_of(worths, mask_of(pit))
    return False
