"""A desk at which a ground is dug, and changed, deed by deed."""

from pitlots.changes import best_from
from pitlots.checks import GREATEST_WORTH, check_worths
from pitlots.errors import BadNeed, BadWorth, CannotDig
from pitlots.grounds import Ground, check_block
from pitlots.masks import is_free, mask_of
from pitlots.values import is_between


class Desk:
    """A ground, worths, and what is dug: own_ground, own_worths, own_pit, and own_log, the log of what was dug.

    A state is a tuple (ground, worths, log). earlier is the list of the states ahead of all deeds in effect, later
    that of the states behind those that were taken back, the next one last.
    """

    def __init__(self, ground, worths):
        check_worths(ground, worths)
        self.own_ground = ground
        self.own_worths = worths
        self.own_pit = ()
        self.own_log = ()
        self.earlier = []
        self.later = []

    def __len__(self):
        return len(self.earlier)

    def state(self):
        """The state in which the desk stands."""
        return self.own_ground, self.own_worths, self.own_log

    def stand(self, state):
        """Let the desk stand in a state."""
        self.own_ground, self.own_worths, self.own_log = state
        self.own_pit = tuple(sorted([block for _, block in self.own_log]))

    def go(self, state):
        """Let the desk stand in the state to which a deed leads."""
        self.earlier.append(self.state())
        self.later.clear()
        self.stand(state)

    def dig(self, block):
        """Dig a block."""
        check_block(self.own_ground, block)
        if not is_free(self.own_ground.covers, mask_of(self.own_pit), block):
            raise CannotDig()
        self.go((self.own_ground, self.own_worths, self.own_log + (("dug", block),)))

    def set_worth(self, block, worth):
        """Give a block another worth, or the same again."""
        check_block(self.own_ground, block)
        if not is_between(worth, -GREATEST_WORTH, GREATEST_WORTH):
            raise BadWorth()
        worths = self.own_worths[:block] + (worth,) + self.own_worths[block + 1:]
        self.go((self.own_ground, worths, self.own_log))

    def add_need(self, block, other):
        """Let a block need another one first from now on."""
        check_block(self.own_ground, block)
        check_block(self.own_ground, other)
        firsts = self.own_ground.covers[block]
        if other >= block or other in firsts or (block in self.own_pit and other not in self.own_pit):
            raise BadNeed()
        self.need(block, tuple(sorted(firsts + (other,))))

    def drop_need(self, block, other):
        """Let a block need another one first no more."""
        check_block(self.own_ground, block)
        check_block(self.own_ground, other)
        firsts = self.own_ground.covers[block]
        if other not in firsts:
            raise BadNeed()
        self.need(block, tuple([first for first in firsts if first != other]))

    def need(self, block, firsts):
        """Let a block need some others first, and no more."""
        covers = self.own_ground.covers
        ground = Ground(covers[:block] + (firsts,) + covers[block + 1:])
        self.go((ground, self.own_worths, self.own_log))

    def undo(self):
        """Take back the last deed that is in effect; whether there was one."""
        if not self.earlier:
            return False
        self.later.append(self.state())
        self.stand(self.earlier.pop())
        return True

    def redo(self):
        """Do the deed again that was taken back last, if none was done since; whether there was one."""
        if not self.later:
            return False
        self.earlier.append(self.state())
        self.stand(self.later.pop())
        return True

    def copy(self):
        """An independent desk that stands as this one, with all that can be taken back and done again."""
        other = Desk(self.own_ground, self.own_worths)
        other.earlier = list(self.earlier)
        other.later = list(self.later)
        other.stand(self.state())
        return other

    def best(self):
        """The greatest worth of all pits that have what is dug."""
        return best_from(self.own_ground, self.own_worths, self.own_pit)
