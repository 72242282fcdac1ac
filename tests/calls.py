"""All functions of the interface with calls of them: what the tests of wrong arguments and of kept promises go over.

Each row is a function, its module, the kinds of its arguments (the names in plain.FAULTS), their names, and a call of
it with the example ground.
"""

import importlib

from pitlots.grounds import Ground

COVERS = ((), (), (0, 1), (1,))
WORTHS = (-4, -3, 9, 2)
GAINS, COSTS, PRICE = (0, 0, 2, 3), (6, 3, 1, 0), (2, 1)
SHARING = ((None, None, (7, 2), (1, 1)), ((2, 0, (6, 1)), (2, 2, (1, 1)), (3, 1, (3, 1))))
WHOLE = (0, 1, 2, 3)

TOLD = (
    ("grounds", "cover", "ground block", "ground block", (2,)),
    ("grounds", "needers", "ground block", "ground block", (1,)),
    ("grounds", "levels", "ground", "ground", ()),
    ("grounds", "renamed", "ground order", "ground order", ((1, 3, 0, 2),)),
    ("chains", "chain", "ground one other", "ground block block", (2, 0)),
    ("chains", "shows_chain", "ground one other value", "ground block block any", (2, 0, (2, 0))),
    ("pits", "is_pit", "ground lot", "ground lot", ((0, 1),)),
    ("pits", "all_pits", "ground", "ground", ()),
    ("pits", "least_pit", "ground lot", "ground lot", ((2,),)),
    ("pits", "greatest_pit", "ground lot", "ground lot", ((0,),)),
    ("pits", "next_blocks", "ground pit", "ground pit", ((1,),)),
    ("pits", "last_blocks", "ground pit", "ground pit", ((0, 1, 3),)),
    ("worths", "worth_of", "ground worths lot", "ground worths lot", (WORTHS, (0, 2))),
    ("worths", "best_worth", "ground worths", "ground worths", (WORTHS,)),
    ("worths", "all_best", "ground worths", "ground worths", (WORTHS,)),
    ("worths", "least_best", "ground worths", "ground worths", (WORTHS,)),
    ("worths", "greatest_best", "ground worths", "ground worths", (WORTHS,)),
    ("worths", "fates", "ground worths", "ground worths", (WORTHS,)),
    ("worths", "with_block", "ground worths block", "ground worths block", (WORTHS, 3)),
    ("worths", "without_block", "ground worths block", "ground worths block", (WORTHS, 3)),
    ("payments", "payments", "ground worths", "ground worths", (WORTHS,)),
    ("payments", "are_payments", "ground worths value", "ground worths any", (WORTHS, ((2, 0, 4),))),
    ("payments", "shows_best", "ground worths pit value", "ground worths pit any",
     (WORTHS, WHOLE, ((2, 0, 4), (2, 1, 3)))),
    ("payments", "verdict", "ground worths pit", "ground worths pit", (WORTHS, WHOLE)),
    ("payments", "shows_verdict", "ground worths pit value", "ground worths pit any", (WORTHS, (), ("better", WHOLE))),
    ("prices", "worth_at", "ground gains costs price lot", "ground gains costs price lot",
     (GAINS, COSTS, PRICE, (0, 2))),
    ("prices", "best_at", "ground gains costs price", "ground gains costs price", (GAINS, COSTS, PRICE)),
    ("prices", "price_for", "ground gains costs target", "ground gains costs target", (GAINS, COSTS, 4)),
    ("prices", "dearest", "ground gains costs price block", "ground gains costs price block",
     (GAINS, COSTS, PRICE, 1)),
    ("ladders", "rates", "ground gains costs", "ground gains costs", (GAINS, COSTS)),
    ("ladders", "ladder", "ground gains costs", "ground gains costs", (GAINS, COSTS)),
    ("ladders", "layers", "ground gains costs", "ground gains costs", (GAINS, COSTS)),
    ("ladders", "pits_by_year", "ground gains costs price growths years", "ground gains costs price growths years",
     (GAINS, COSTS, PRICE, (0, 0, 1, 0), 3)),
    ("sharings", "sharing", "ground gains costs", "ground gains costs", (GAINS, COSTS)),
    ("sharings", "shows_sharing", "ground gains costs value", "ground gains costs any", (GAINS, COSTS, SHARING)),
    ("sharings", "paid_at", "ground gains costs value price", "ground gains costs sharing price",
     (GAINS, COSTS, SHARING, PRICE)),
    ("rows", "count_rows", "ground pit", "ground pit", (WHOLE,)),
    ("rows", "row_at", "ground pit number", "ground pit number", (WHOLE, 4)),
    ("rows", "place_of", "ground pit row", "ground pit row", (WHOLE, (1, 0, 3, 2))),
    ("purses", "least_purse", "ground worths pit", "ground worths pit", (WORTHS, WHOLE)),
    ("purses", "first_paid", "ground worths pit purse", "ground worths pit purse", (WORTHS, WHOLE, 5)),
    ("purses", "purse_paper", "ground worths pit", "ground worths pit", (WORTHS, WHOLE)),
    ("purses", "shows_purse", "ground worths pit purse value", "ground worths pit purse_from_1 any",
     (WORTHS, WHOLE, 5, ((0, 1), (0, 1, 3)))),
    ("rounds", "fewest_rounds", "ground pit machines", "ground pit machines", (WHOLE, 2)),
    ("rounds", "best_rounds", "ground pit machines", "ground pit machines", (WHOLE, 2)),
    ("rounds", "highest_first", "ground pit machines", "ground pit machines", (WHOLE, 2)),
    ("rounds", "round_count", "ground pit machines value", "ground pit machines any",
     (WHOLE, 2, ((0, 1), (2, 3)))),
    ("rounds", "round_span", "ground pit machines rounds block", "ground pit machines rounds block",
     (WHOLE, 2, 3, 3)),
)


class Call:
    """A function with the names and kinds of its arguments, and with arguments that fit."""

    def __init__(self, module, name, names, kinds, arguments):
        self.module, self.name = "pitlots." + module, name
        self.function = getattr(importlib.import_module(self.module), name)
        self.names, self.kinds = names.split(), kinds.split()
        self.arguments = (Ground(COVERS),) + arguments
        assert len(self.names) == len(self.kinds) == len(self.arguments)


CALLS = [Call(*row) for row in TOLD]
