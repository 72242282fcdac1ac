"""Logs of digs with gaps, and the digs that fit them."""

from pitlots.errors import BadDig, BadLog, TooMany
from pitlots.grounds import check_ground, is_block
from pitlots.masks import common_mask, full_mask, in_order, is_free, joint_mask, lot_of, mask_of, next_within
from pitlots.values import is_tuple_of

MOST_ENTRIES = 20
MOST_LOST = 5
MOST_DIGS = 2000
LOST = ("lost",)


def is_entry(ground, value):
    """Whether a value is an entry of a log."""
    if is_tuple_of(value, 2):
        return value[0] in ("dug", "is", "not") and is_block(ground, value[1])
    return value == LOST


def check_log(ground, log):
    """Raise BadLog for what is no log."""
    check_ground(ground)
    if not isinstance(log, tuple) or len(log) > MOST_ENTRIES:
        raise BadLog(None)
    for index, entry in enumerate(log):
        if not is_entry(ground, entry) or log[:index + 1].count(LOST) > MOST_LOST:
            raise BadLog(index)


def check_dig(ground, dig):
    """Raise BadDig for what is no dig."""
    check_ground(ground)
    if not isinstance(dig, tuple):
        raise BadDig()
    for place, block in enumerate(dig):
        if not is_block(ground, block) or not is_free(ground.covers, mask_of(dig[:place]), block):
            raise BadDig()


def is_seen_so(entry, dug):
    """Whether an entry ("is", block) or ("not", block) tells what is so when the blocks of a mask are dug."""
    return (dug >> entry[1] & 1 == 1) == (entry[0] == "is")


def takes_block(entry):
    """Whether a dig has a block for an entry."""
    return entry[0] in ("dug", "lost")


def blocks_for(covers, entry, dug):
    """The ascending list of the blocks that can be dug for an entry ("dug", block) or ("lost",) behind a mask."""
    free = next_within(covers, dug, full_mask(covers))
    return free if entry == LOST else [block for block in free if block == entry[1]]


def counts_behind(covers, counts, entry):
    """A dict from all that may be dug behind an entry, masks, to by how many digs, by that of the entries ahead."""
    if not takes_block(entry):
        return {dug: counts[dug] for dug in counts if is_seen_so(entry, dug)}
    found = {}
    for dug, many in counts.items():
        for block in blocks_for(covers, entry, dug):
            found[dug | 1 << block] = found.get(dug | 1 << block, 0) + many
    return found


def counts_of(covers, log):
    """A dict from all that may be dug behind a log, masks, to by how many digs that fit it."""
    counts = {0: 1}
    for entry in log:
        counts = counts_behind(covers, counts, entry)
    return counts


def fits(ground, dig, log):
    """Whether a dig fits a log."""
    check_dig(ground, dig)
    check_log(ground, log)
    left, dug = list(dig), 0
    for entry in log:
        if not takes_block(entry):
            if not is_seen_so(entry, dug):
                return False
        elif not left or left[0] not in blocks_for(ground.covers, entry, dug):
            return False
        else:
            dug |= 1 << left.pop(0)
    return not left


def digs_of(ground, log):
    """The ascending list of all digs that fit a log."""
    if count_digs(ground, log) > MOST_DIGS:
        raise TooMany(MOST_DIGS)
    digs = [()]
    for entry in log:
        if takes_block(entry):
            digs = [dig + (block,) for dig in digs for block in blocks_for(ground.covers, entry, mask_of(dig))]
        else:
            digs = [dig for dig in digs if is_seen_so(entry, mask_of(dig))]
    return digs


def count_digs(ground, log):
    """How many digs fit a log."""
    check_log(ground, log)
    return sum(list(counts_of(ground.covers, log).values()))


def first_against(ground, log):
    """The index of the first entry such that no dig fits the entries up to it, None if some dig fits the log."""
    check_log(ground, log)
    counts = {0: 1}
    for index, entry in enumerate(log):
        counts = counts_behind(ground.covers, counts, entry)
        if not counts:
            return index
    return None


def pits_behind(ground, log):
    """The list of the pits of all blocks of digs that fit, the smaller first, those of one size ascending."""
    check_log(ground, log)
    return in_order([lot_of(dug) for dug in counts_of(ground.covers, log)])


def surely_dug(ground, log):
    """The pit of the blocks that all digs that fit a log have, None if none fits."""
    check_log(ground, log)
    masks = list(counts_of(ground.covers, log))
    return lot_of(common_mask(masks)) if masks else None


def maybe_dug(ground, log):
    """The pit of the blocks that some dig that fits a log has, None if none fits."""
    check_log(ground, log)
    masks = list(counts_of(ground.covers, log))
    return lot_of(joint_mask(masks)) if masks else None
