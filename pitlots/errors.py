"""All errors of the package."""


class PitError(ValueError):
    """The base class of all errors of the package."""


class BadGround(PitError):
    """The value is no ground."""


class BadCovers(PitError):
    """The value is no covers: index is that of its first wrong thing, or None."""

    def __init__(self, index):
        super().__init__(f"index {index}")
        self.index = index


class BadBlock(PitError):
    """The value is no block of the ground."""


class BadOrder(PitError):
    """The value is no tuple of all blocks, each behind all that it needs."""


class BadLot(PitError):
    """The value is no ascending tuple of unlike blocks."""


class NotPit(PitError):
    """The lot lacks a block that one of its blocks needs."""


class BadWorths(PitError):
    """The value is no tuple of a worth for each block."""


class TooMany(PitError):
    """There are more than most of what is to be told."""

    def __init__(self, most):
        super().__init__(f"most {most}")
        self.most = most


class BadGains(PitError):
    """The value is no tuple of a gain for each block."""


class BadCosts(PitError):
    """The value is no tuple of a cost for each block."""


class BadPrice(PitError):
    """The value is no price."""


class BadSharing(PitError):
    """The value is no sharing of the costs."""


class BadTarget(PitError):
    """The value is no target."""


class BadGrowths(PitError):
    """The value is no tuple of a growth for each block."""


class BadYears(PitError):
    """The value is no number of years."""


class BadPlace(PitError):
    """The value is no number of a row."""


class BadRow(PitError):
    """The value is no row of the pit."""


class BadPurse(PitError):
    """The value is no purse."""


class BadMachines(PitError):
    """The value is no number of machines."""


class BadRounds(PitError):
    """The value is no number of rounds."""


class BadArms(PitError):
    """The value is no arms: arm is the first wrong one, place that of its first wrong deed."""

    def __init__(self, arm, place):
        super().__init__(f"arm {arm}, place {place}")
        self.arm = arm
        self.place = place


class BadTurns(PitError):
    """The value is no turns: index is that of the first wrong one, or None."""

    def __init__(self, index):
        super().__init__(f"index {index}")
        self.index = index


class BadPeriods(PitError):
    """The value is no periods: index is that of the first wrong one, or None."""

    def __init__(self, index):
        super().__init__(f"index {index}")
        self.index = index


class BadColumns(PitError):
    """The value is no columns of a table."""


class BadRules(PitError):
    """The value is no rules: index is that of the first wrong one, or None."""

    def __init__(self, index):
        super().__init__(f"index {index}")
        self.index = index


class TooSteep(PitError):
    """The columns cannot be dug whole by the rule with this index."""

    def __init__(self, index):
        super().__init__(f"index {index}")
        self.index = index


class BadTable(PitError):
    """The value is no table."""


class BadColumn(PitError):
    """The value is no column of the table."""


class BadDepth(PitError):
    """The value is no depth of the column."""


class BadProfile(PitError):
    """The value is no profile of the table."""


class BadLimits(PitError):
    """The value is no limits of the columns."""


class AtBottom(PitError):
    """The column is dug whole."""


class BadProfiles(PitError):
    """The value is no profiles: index is that of the first wrong one, or None."""

    def __init__(self, index):
        super().__init__(f"index {index}")
        self.index = index


class BadWanted(PitError):
    """The value is no worths of cells: index is that of the first wrong column, or None."""

    def __init__(self, index):
        super().__init__(f"index {index}")
        self.index = index


class BadRefills(PitError):
    """The value is no tuple of a refill for each block."""


class NotWithin(PitError):
    """What stays open does not lie in what is dug."""


class TooGreat(PitError):
    """The ground has too many blocks to be doubled."""


class TooHigh(PitError):
    """A worth of the doubled ground would lie beyond the bounds of worths."""


class BadBounds(PitError):
    """The value is no bounds: index is that of the first wrong pair, or None."""

    def __init__(self, index):
        super().__init__(f"index {index}")
        self.index = index


class BadChoices(PitError):
    """The value is no choices: index is that of the first wrong thing, or None."""

    def __init__(self, index):
        super().__init__(f"index {index}")
        self.index = index


class BadMany(PitError):
    """The value is no number of probes."""


class BadProbes(PitError):
    """The value is no row of probes: index is that of the first wrong entry, or None."""

    def __init__(self, index):
        super().__init__(f"index {index}")
        self.index = index


class BadOwners(PitError):
    """The value is no tuple of an owner for each block."""


class BadOwner(PitError):
    """The value is no owner."""


class BadParty(PitError):
    """The value is no ascending tuple of unlike owners."""


class BadSplit(PitError):
    """The value is no split."""


class NotWhole(PitError):
    """The shares together are not the gain of all four owners."""


class BadOwnerRow(PitError):
    """The value is no tuple of all four owners, each once."""


class BadShared(PitError):
    """The value does not tell shared blocks of two grounds."""


class BadJoin(PitError):
    """The join has too many blocks, or blocks that need one another in a ring."""


class EmptyLot(PitError):
    """A ground would have no blocks."""


class NotTogether(PitError):
    """A block beside the lot needs one of it and is needed by one of it."""


class BadShares(PitError):
    """The value is no tuple of a fraction for each owner."""


class NotHeld(PitError):
    """The gain of a party is above its shares together."""


class BadDig(PitError):
    """The value is no dig."""


class BadHeap(PitError):
    """The value is no heap."""


class BadWorth(PitError):
    """The value is no worth."""


class BadNeed(PitError):
    """The need cannot be added, or dropped."""


class CannotDig(PitError):
    """The block is dug, or needs one that is not."""


class BadLog(PitError):
    """The value is no log: index is that of its first wrong entry, or None."""

    def __init__(self, index):
        super().__init__(f"index {index}")
        self.index = index


class BadHauls(PitError):
    """The value is no hauls: index is that of the first one that cannot be done, or None."""

    def __init__(self, index):
        super().__init__(f"index {index}")
        self.index = index


class InvalidText(PitError):
    """The text cannot be read: line and word tell where, counted from 1."""

    def __init__(self, line, word):
        super().__init__(f"line {line}, word {word}")
        self.line = line
        self.word = word
