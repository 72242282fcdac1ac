"""Plans of probes: which blocks' worths are asked for until a pit is known to be best."""

from pitlots.checks import is_pit_of
from pitlots.choices import check_choices, regret_of
from pitlots.errors import BadMany, TooMany
from pitlots.grounds import is_block
from pitlots.masks import best_masks, common_mask, in_order, lot_of, mask_of
from pitlots.values import is_between, is_tuple_of, is_whole

MOST_NARROWED = 3000
MOST_PROBES = 10


def open_blocks(choices):
    """The ascending list of the blocks with more than one possible worth."""
    return [block for block, worths in enumerate(choices) if len(worths) > 1]


def narrowed(choices, block, worth):
    """The choices in which a worth is the only one of a block."""
    return choices[:block] + ((worth,),) + choices[block + 1:]


def check_few(ground, choices):
    """Raise BadChoices, then TooMany if there are too many choices of all possible worths of a block or just one."""
    check_choices(ground, choices)
    many = 1
    for block in open_blocks(choices):
        many *= len(choices[block]) + 1
    if many > MOST_NARROWED:
        raise TooMany(MOST_NARROWED)


def all_narrowed(choices):
    """The list of all choices of which each block has all its possible worths, or just one of them.

    Each one stands behind those that tell more.
    """
    found = [()]
    for worths in choices:
        ways = [(worth,) for worth in worths]
        if len(worths) > 1:
            ways.append(worths)
        found = [some + (way,) for some in found for way in ways]
    return found


def known_pits(covers, choices):
    """A dict, for all narrowed choices, of the pits that are best in all their cases, as a mask of masks.

    These are the pits that are best whatever a probe of a block, of any open one, would tell.
    """
    found = {}
    for some in all_narrowed(choices):
        blocks = open_blocks(some)
        if blocks:
            found[some] = common_mask([found[narrowed(some, blocks[0], worth)] for worth in some[blocks[0]]])
        else:
            found[some] = mask_of(best_masks(covers, [worths[0] for worths in some]))
    return found


class Depths:
    """The least depths of plans; found is a dict of them for all narrowed choices, known one of known_pits."""

    def __init__(self, covers, choices):
        self.known = known_pits(covers, choices)
        self.found = {}
        for some in self.known:
            ways = [self.depth_by(some, block) for block in open_blocks(some)]
            self.found[some] = 0 if self.known[some] else min(ways)

    def depth_by(self, choices, block):
        """The least depth of a plan that begins with a probe of an open block."""
        return 1 + max([self.found[narrowed(choices, block, worth)] for worth in choices[block]])

    def first_block(self, choices):
        """The least block with which a plan of least depth begins, None if no probe is asked for."""
        if self.found[choices] == 0:
            return None
        best = [block for block in open_blocks(choices) if self.depth_by(choices, block) == self.found[choices]]
        return best[0]

    def plan(self, choices):
        """A plan of least depth."""
        block = self.first_block(choices)
        if block is None:
            return "dig", in_order([lot_of(pit) for pit in lot_of(self.known[choices])])[0]
        return block, tuple([(worth, self.plan(narrowed(choices, block, worth))) for worth in choices[block]])


def probe_plan(ground, choices):
    """A plan of least depth."""
    check_few(ground, choices)
    return Depths(ground.covers, choices).plan(choices)


def fewest_probes(ground, choices):
    """The least depth of a plan."""
    check_few(ground, choices)
    return Depths(ground.covers, choices).found[choices]


def best_probe(ground, choices):
    """The least block with which a plan of least depth begins, None if this depth is 0."""
    check_few(ground, choices)
    return Depths(ground.covers, choices).first_block(choices)


def shows_probe_plan(ground, choices, many, value):
    """Whether any value is a plan of a depth of at most many."""
    check_choices(ground, choices)
    if not is_between(many, 0, MOST_PROBES):
        raise BadMany()
    return is_plan(ground, choices, many, value)


def is_plan(ground, choices, many, value):
    """Whether a value is a plan, for checked choices, of a depth of at most many."""
    if not is_tuple_of(value, 2):
        return False
    first, rest = value
    if first == "dig":
        return is_pit_of(ground, rest) and regret_of(ground.covers, choices, mask_of(rest)) == 0
    if many == 0 or not is_block(ground, first) or first not in open_blocks(choices):
        return False
    worths = choices[first]
    if not is_tuple_of(rest, len(worths)) or not all([is_tuple_of(branch, 2) for branch in rest]):
        return False
    if not all([is_whole(told) and told == worth for (told, _), worth in zip(rest, worths)]):
        return False
    return all([is_plan(ground, narrowed(choices, first, worth), many - 1, plan) for worth, plan in rest])
