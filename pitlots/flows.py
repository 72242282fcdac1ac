"""The greatest flow from givers to takers: payments and sharings are found by it."""


class Flow:
    """How much each giver hands to each taker.

    gives and takes are dicts from a block to the most that it hands on, or gets; pairs is the list of the tuples
    (giver, taker) between which something may flow. A block can be both. The amounts are kept in passed.
    """

    def __init__(self, gives, takes, pairs):
        self.left = dict(gives)
        self.room = dict(takes)
        self.passed = {pair: 0 for pair in pairs}

    def fill(self):
        """Let as much flow as can."""
        path = self.open_path()
        while path:
            self.push(path)
            path = self.open_path()

    def open_path(self):
        """A shortest path giver, taker, giver, .., taker by which more can flow, () if there is none.

        On it each giver but the first one takes back what it handed to the taker ahead of it.
        """
        paths = [(giver,) for giver in self.left if self.left[giver] > 0]
        met_givers, met_takers = [path[0] for path in paths], []
        while paths:
            longer = []
            for path in paths:
                takers = self.takers_of(path[-1], met_takers)
                met_takers = met_takers + takers
                for taker in takers:
                    if self.room[taker] > 0:
                        return path + (taker,)
                    givers = self.givers_to(taker, met_givers)
                    met_givers = met_givers + givers
                    longer = longer + [path + (taker, giver) for giver in givers]
            paths = longer
        return ()

    def takers_of(self, giver, met):
        """The takers to which a giver may hand something, but for those that were met."""
        return [taker for one, taker in self.passed if one == giver and taker not in met]

    def givers_to(self, taker, met):
        """The givers that handed something to a taker, but for those that were met."""
        return [giver for giver, one in self.passed
                if one == taker and self.passed[giver, taker] > 0 and giver not in met]

    def push(self, path):
        """Let as much as can flow by a path."""
        onward = list(zip(path[::2], path[1::2]))
        backward = list(zip(path[2::2], path[1::2]))
        many = min([self.left[path[0]], self.room[path[-1]]] + [self.passed[pair] for pair in backward])
        self.left[path[0]] -= many
        self.room[path[-1]] -= many
        for pair in onward:
            self.passed[pair] += many
        for pair in backward:
            self.passed[pair] -= many


def greatest_flow(gives, takes, pairs):
    """The ascending list of all (giver, taker, amount), amount above 0, of a greatest flow."""
    flow = Flow(gives, takes, pairs)
    flow.fill()
    return sorted([(giver, taker, many) for (giver, taker), many in flow.passed.items() if many > 0])
