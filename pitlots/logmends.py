"""Logs that no dig fits but for some entries, which are doubted then."""

from pitlots.diglogs import LOST, blocks_for, check_log, is_seen_so, takes_block


def mends_behind(covers, mends, index, entry):
    """A dict from all that may be dug behind an entry, masks, to the least mend of them, by that of the entries ahead.

    A mend is a tuple (many, doubts, dig): a dig, the indexes of the entries that it is unlike, and how many they are.
    Whatever comes behind is the same for all digs of the same blocks, so the least mends go on from the least ones.
    """
    found = {}
    for dug, mend in mends.items():
        if takes_block(entry):
            noted = blocks_for(covers, entry, dug)
            for block in blocks_for(covers, LOST, dug):
                longer = longer_mend(mend, (block,), () if block in noted else (index,))
                behind = dug | 1 << block
                found[behind] = min(found.get(behind, longer), longer)
        else:
            found[dug] = longer_mend(mend, (), () if is_seen_so(entry, dug) else (index,))
    return found


def longer_mend(mend, blocks, doubts):
    """A mend with more blocks and more doubts."""
    many, ahead, dig = mend
    return many + len(doubts), ahead + doubts, dig + blocks


def least_mend(ground, log):
    """The least mend of a log, None if it has more blocks than there are; raises what is told for the log."""
    check_log(ground, log)
    mends = {0: (0, (), ())}
    for index, entry in enumerate(log):
        mends = mends_behind(ground.covers, mends, index, entry)
    return min(list(mends.values())) if mends else None


def doubted(ground, log):
    """The least of the smallest tuples of indexes of entries but for which some dig nearly fits, None if none does."""
    mend = least_mend(ground, log)
    return None if mend is None else mend[1]


def mended(ground, log):
    """The least dig that nearly fits but for the doubted entries, None if none does."""
    mend = least_mend(ground, log)
    return None if mend is None else mend[2]
