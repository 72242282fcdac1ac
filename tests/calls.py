"""All functions of the interface with calls of them: what the tests of wrong arguments and of kept promises go over.

Each row is a module, a function of it, the names of its arguments, their kinds (the names in faults.FAULTS), and the
arguments of a call of it that stand behind the first one, the example ground or the example table.
"""

import importlib

from pitlots.grounds import Ground
from pitlots.slopes import Table

COVERS = ((), (), (0, 1), (1,))
WORTHS = (-4, -3, 9, 2)
GAINS, COSTS, PRICE = (0, 0, 2, 3), (6, 3, 1, 0), (2, 1)
SHARING = ((None, None, (7, 2), (1, 1)), ((2, 0, (6, 1)), (2, 2, (1, 1)), (3, 1, (3, 1))))
WHOLE = (0, 1, 2, 3)
ARMS = ((("dig", 0), ("wait", 1)), (("stand", 0), ("leave",), ("dig", 1)))
PERIODS = ((-3, 5, -4, 1), (-1, 5, 6, 0))
REFILLS = (2, -1, 0, 1)
COLUMNS, RULES = (2, 3, 1), ((1, 1), (2, 1))
WANTED = ((-1, 0), (-2, 1, 3), (-1,))
BOUNDS = ((-4, -2), (-3, -3), (8, 9), (0, 2))
CHOICES = ((-4,), (-3,), (5, 9), (0, 2))
PLAN = (2, ((5, ("dig", ())), (9, ("dig", WHOLE))))
PROBES = (("told", 2, 9), ("changed", 1, 7), ("told", 0, -4))
OWNERS, SPLIT = (0, 0, 1, 2), (0, 2, 2, 0)
OTHER_COVERS, SHARED, MORE = ((), (0,), (0,)), ((1, 0), (3, 2)), (1, -2, 5)
OTHER = Ground(OTHER_COVERS)
LOG = (("dug", 0), ("lost",), ("not", 3), ("lost",))
HAULS = (("put", 0, 0), ("put", 1, 0), ("move", 0, 4, 1), ("put", 3, 0), ("move", 0, 1, 2))
SHARES = ((3, 1), (1, 2), (1, 2), (0, 1))

TOLD = (
    ("grounds", "cover", "ground block", "ground block", (2,)),
    ("grounds", "needers", "ground block", "ground block", (1,)),
    ("grounds", "levels", "ground", "ground", ()),
    ("grounds", "renamed", "ground order", "ground order", ((1, 3, 0, 2),)),
    ("chains", "chain", "ground one other", "ground block block", (2, 0)),
    ("chains", "shows_chain", "ground one other value", "ground block block any", (2, 0, (2, 0))),
    ("pits", "is_pit", "ground lot", "ground lot", ((0, 1),)),
    ("pits", "all_pits", "ground", "ground", ()),
    ("pits", "least_pit", "ground lot", "ground lot", ((2,),)),
    ("pits", "greatest_pit", "ground lot", "ground lot", ((0,),)),
    ("pits", "next_blocks", "ground pit", "ground pit", ((1,),)),
    ("pits", "last_blocks", "ground pit", "ground pit", ((0, 1, 3),)),
    ("worths", "worth_of", "ground worths lot", "ground worths lot", (WORTHS, (0, 2))),
    ("worths", "best_worth", "ground worths", "ground worths", (WORTHS,)),
    ("worths", "all_best", "ground worths", "ground worths", (WORTHS,)),
    ("worths", "least_best", "ground worths", "ground worths", (WORTHS,)),
    ("worths", "greatest_best", "ground worths", "ground worths", (WORTHS,)),
    ("worths", "fates", "ground worths", "ground worths", (WORTHS,)),
    ("worths", "with_block", "ground worths block", "ground worths block", (WORTHS, 3)),
    ("worths", "without_block", "ground worths block", "ground worths block", (WORTHS, 3)),
    ("payments", "payments", "ground worths", "ground worths", (WORTHS,)),
    ("payments", "are_payments", "ground worths value", "ground worths any", (WORTHS, ((2, 0, 4),))),
    ("payments", "shows_best", "ground worths pit value", "ground worths pit any",
     (WORTHS, WHOLE, ((2, 0, 4), (2, 1, 3)))),
    ("payments", "verdict", "ground worths pit", "ground worths pit", (WORTHS, WHOLE)),
    ("payments", "shows_verdict", "ground worths pit value", "ground worths pit any", (WORTHS, (), ("better", WHOLE))),
    ("prices", "worth_at", "ground gains costs price lot", "ground gains costs price lot",
     (GAINS, COSTS, PRICE, (0, 2))),
    ("prices", "best_at", "ground gains costs price", "ground gains costs price", (GAINS, COSTS, PRICE)),
    ("prices", "price_for", "ground gains costs target", "ground gains costs target", (GAINS, COSTS, 4)),
    ("prices", "dearest", "ground gains costs price block", "ground gains costs price block",
     (GAINS, COSTS, PRICE, 1)),
    ("ladders", "rates", "ground gains costs", "ground gains costs", (GAINS, COSTS)),
    ("ladders", "ladder", "ground gains costs", "ground gains costs", (GAINS, COSTS)),
    ("ladders", "layers", "ground gains costs", "ground gains costs", (GAINS, COSTS)),
    ("ladders", "pits_by_year", "ground gains costs price growths years", "ground gains costs price growths years",
     (GAINS, COSTS, PRICE, (0, 0, 1, 0), 3)),
    ("sharings", "sharing", "ground gains costs", "ground gains costs", (GAINS, COSTS)),
    ("sharings", "shows_sharing", "ground gains costs value", "ground gains costs any", (GAINS, COSTS, SHARING)),
    ("sharings", "paid_at", "ground gains costs value price", "ground gains costs sharing price",
     (GAINS, COSTS, SHARING, PRICE)),
    ("rows", "count_rows", "ground pit", "ground pit", (WHOLE,)),
    ("rows", "row_at", "ground pit number", "ground pit number", (WHOLE, 4)),
    ("rows", "place_of", "ground pit row", "ground pit row", (WHOLE, (1, 0, 3, 2))),
    ("purses", "least_purse", "ground worths pit", "ground worths pit", (WORTHS, WHOLE)),
    ("purses", "first_paid", "ground worths pit purse", "ground worths pit purse", (WORTHS, WHOLE, 5)),
    ("purses", "purse_paper", "ground worths pit", "ground worths pit", (WORTHS, WHOLE)),
    ("purses", "shows_purse", "ground worths pit purse value", "ground worths pit purse_from_1 any",
     (WORTHS, WHOLE, 5, ((0, 1), (0, 1, 3)))),
    ("rounds", "fewest_rounds", "ground pit machines", "ground pit machines", (WHOLE, 2)),
    ("rounds", "best_rounds", "ground pit machines", "ground pit machines", (WHOLE, 2)),
    ("rounds", "highest_first", "ground pit machines", "ground pit machines", (WHOLE, 2)),
    ("rounds", "round_count", "ground pit machines value", "ground pit machines any",
     (WHOLE, 2, ((0, 1), (2, 3)))),
    ("rounds", "round_span", "ground pit machines rounds block", "ground pit machines rounds block",
     (WHOLE, 2, 3, 3)),
    ("twins", "most_pairs", "ground pit", "ground pit", (WHOLE,)),
    ("twins", "best_pairs", "ground pit", "ground pit", (WHOLE,)),
    ("twins", "are_pairs", "ground pit value", "ground pit any", (WHOLE, ((0, 1), (2, 3)))),
    ("arms", "arms_behind", "ground arms turns", "ground arms turns", (ARMS, (1, 1, 0))),
    ("arms", "arms_next", "ground arms turns", "ground arms turns", (ARMS, (1,))),
    ("arms", "arms_whole", "ground arms", "ground arms", (ARMS,)),
    ("arms", "arms_count", "ground arms", "ground arms", (ARMS,)),
    ("arms", "arms_stuck", "ground arms", "ground arms", (ARMS,)),
    ("arms", "arms_pits", "ground arms", "ground arms", (ARMS,)),
    ("periods", "best_by_when", "ground periods", "ground periods", (PERIODS,)),
    ("periods", "worth_by_when", "ground periods value", "ground periods any", (PERIODS, ((1,), (0, 1)))),
    ("periods", "copies", "ground periods", "ground periods", (PERIODS,)),
    ("slopes", "block_at", "table column depth", "table column depth", (1, 3)),
    ("slopes", "cell_of", "table block", "table cell", (4,)),
    ("slopes", "ground_of", "table", "table", ()),
    ("slopes", "is_profile", "table value", "table any", ((1, 2, 1),)),
    ("slopes", "all_profiles", "table", "table", ()),
    ("slopes", "count_profiles", "table", "table", ()),
    ("slopes", "as_pit", "table profile", "table profile", ((1, 2, 1),)),
    ("slopes", "as_profile", "table pit", "table cells", ((0, 1, 2),)),
    ("depths", "deepest", "table limits", "table limits", ((2, 3, 0),)),
    ("depths", "shallowest", "table limits", "table limits", ((0, 3, 0),)),
    ("depths", "slack", "table one other", "table column column", (0, 2)),
    ("depths", "holder", "table limits column", "table limits column", ((2, 3, 0), 1)),
    ("depths", "held_by", "table profile column", "table profile column", ((1, 2, 0), 1)),
    ("depths", "open_columns", "table profile", "table profile", ((1, 2, 0),)),
    ("depths", "ridges", "table profile", "table profile", ((1, 2, 0),)),
    ("depths", "deepened", "table profile column", "table profile free_column", ((0, 1, 0), 1)),
    ("depths", "flattest", "table rows", "table profiles", ([(0, 2, 0)],)),
    ("depths", "is_flatter", "table other", "table table", (Table(COLUMNS, ((1, 2), (2, 1))),)),
    ("depths", "between", "table seen", "table seen", ((None, 2, None),)),
    ("depths", "best_profile", "table worths", "table wanted", (WANTED,)),
    ("refills", "can_refill", "ground pit lot", "ground pit lot", (WHOLE, (2,))),
    ("refills", "plan_worth", "ground worths refills dug open_pit", "ground worths refills pit open",
     (WORTHS, REFILLS, WHOLE, (0, 1))),
    ("refills", "best_refill", "ground worths refills", "ground worths refills", (WORTHS, REFILLS)),
    ("refills", "least_plan", "ground worths refills", "ground worths refills", (WORTHS, REFILLS)),
    ("refills", "greatest_plan", "ground worths refills", "ground worths refills", (WORTHS, REFILLS)),
    ("refills", "best_after", "ground worths refills pit", "ground worths refills pit", (WORTHS, REFILLS, (0,))),
    ("refills", "least_after", "ground worths refills pit", "ground worths refills pit", (WORTHS, REFILLS, (0,))),
    ("doubling", "doubled", "ground", "ground", ()),
    ("doubling", "doubled_worths", "ground worths refills", "ground worths added", (WORTHS, REFILLS)),
    ("doubling", "as_pit", "ground dug open_pit", "ground pit open", (WHOLE, (0, 1))),
    ("doubling", "of_pit", "ground pit", "ground doubled_pit", ((0, 1, 2),)),
    ("changes", "best_from", "ground worths pit", "ground worths pit", (WORTHS, (0,))),
    ("changes", "least_from", "ground worths pit", "ground worths pit", (WORTHS, (0,))),
    ("changes", "regret", "ground worths pit", "ground worths pit", (WORTHS, (0,))),
    ("changes", "never_begun", "ground worths pit", "ground worths pit", ((-4, -3, 9, -2), (1, 3))),
    ("changes", "back_row", "ground pit goal", "ground pit pit", ((0,), (1, 3))),
    ("changes", "back_worth", "ground worths refills pit goal", "ground worths refills pit pit",
     (WORTHS, REFILLS, (0,), (1, 3))),
    ("bounds", "is_sure", "ground bounds pit", "ground bounds pit", (BOUNDS, WHOLE)),
    ("bounds", "is_possible", "ground bounds pit", "ground bounds pit", (BOUNDS, (0, 1, 2))),
    ("bounds", "sure_pits", "ground bounds", "ground bounds", (BOUNDS,)),
    ("bounds", "possible_pits", "ground bounds", "ground bounds", (BOUNDS,)),
    ("bounds", "fates_whatever", "ground bounds", "ground bounds", (BOUNDS,)),
    ("bounds", "sure_verdict", "ground bounds pit", "ground bounds pit", (BOUNDS, ())),
    ("bounds", "shows_sure", "ground bounds pit value", "ground bounds pit any",
     (BOUNDS, WHOLE, ("sure", ((2, 0, 4), (2, 1, 3))))),
    ("choices", "count_cases", "ground choices", "ground choices", (CHOICES,)),
    ("choices", "known_best", "ground choices", "ground choices", (CHOICES,)),
    ("choices", "worst_regret", "ground choices pit", "ground choices pit", (CHOICES, WHOLE)),
    ("choices", "least_regret", "ground choices", "ground choices", (CHOICES,)),
    ("probing", "fewest_probes", "ground choices", "ground choices", (CHOICES,)),
    ("probing", "probe_plan", "ground choices", "ground choices", (CHOICES,)),
    ("probing", "best_probe", "ground choices", "ground choices", (CHOICES,)),
    ("probing", "shows_probe_plan", "ground choices many value", "ground choices many any", (CHOICES, 1, PLAN)),
    ("probelogs", "left_by", "ground choices probes", "ground choices probes", (CHOICES, PROBES)),
    ("probelogs", "first_against", "ground choices probes", "ground choices probes", (CHOICES, PROBES)),
    ("knowing", "sum_known", "ground choices", "ground choices", (CHOICES,)),
    ("knowing", "sum_unknown", "ground choices", "ground choices", (CHOICES,)),
    ("knowing", "knowing", "ground choices", "ground choices", (CHOICES,)),
    ("knowing", "knowing_block", "ground choices block", "ground choices block", (CHOICES, 2)),
    ("leases", "gain_of", "ground worths owners party", "ground worths owners party", (WORTHS, OWNERS, (0, 1))),
    ("leases", "own_pit", "ground worths owners party", "ground worths owners party", (WORTHS, OWNERS, (0, 1))),
    ("leases", "bend", "ground worths owners one other", "ground worths owners party party",
     (WORTHS, OWNERS, (0, 1), (0, 2))),
    ("splits", "holds_for", "ground worths owners split", "ground worths owners split", (WORTHS, OWNERS, SPLIT)),
    ("splits", "blocker", "ground worths owners split", "ground worths owners split", (WORTHS, OWNERS, (0, 1, 3, 0))),
    ("splits", "by_order", "ground worths owners turns", "ground worths owners owner_row",
     (WORTHS, OWNERS, (2, 0, 3, 1))),
    ("splits", "least_share", "ground worths owners owner", "ground worths owners owner", (WORTHS, OWNERS, 1)),
    ("splits", "greatest_share", "ground worths owners owner", "ground worths owners owner", (WORTHS, OWNERS, 1)),
    ("splits", "all_splits", "ground worths owners", "ground worths owners", (WORTHS, OWNERS)),
    ("joins", "joined", "one other shared", "ground other_ground shared", (OTHER, SHARED)),
    ("joins", "places", "one other shared", "ground other_ground shared", (OTHER, SHARED)),
    ("joins", "agreeing_pits", "one other shared", "ground other_ground shared", (OTHER, SHARED)),
    ("joins", "join_worth", "one other shared worths more", "ground other_ground shared worths more",
     (OTHER, SHARED, WORTHS, MORE)),
    ("joins", "best_pair", "one other shared worths more", "ground other_ground shared worths more",
     (OTHER, SHARED, WORTHS, MORE)),
    ("drawings", "parted", "ground pit", "ground part", ((0, 1),)),
    ("drawings", "drawn", "ground lot", "ground together", ((0, 3),)),
    ("drawings", "drawn_to", "ground lot", "ground together", ((0, 3),)),
    ("drawings", "pits_with", "ground lot", "ground together", ((0, 3),)),
    ("drawings", "alike", "one other", "ground other_ground", (Ground(((), (0,), (), (0, 2))),)),
    ("diglogs", "fits", "ground dig log", "ground dig log", ((0, 1, 3), LOG)),
    ("diglogs", "digs_of", "ground log", "ground log", (LOG,)),
    ("diglogs", "count_digs", "ground log", "ground log", (LOG,)),
    ("diglogs", "first_against", "ground log", "ground log", (LOG + (("dug", 0),),)),
    ("diglogs", "pits_behind", "ground log", "ground log", (LOG,)),
    ("diglogs", "surely_dug", "ground log", "ground log", (LOG,)),
    ("diglogs", "maybe_dug", "ground log", "ground log", (LOG,)),
    ("logmends", "doubted", "ground log", "ground log", ((("dug", 2), ("dug", 0), ("is", 2)),)),
    ("logmends", "mended", "ground log", "ground log", ((("dug", 2), ("dug", 0), ("is", 2)),)),
    ("hauls", "loads", "ground hauls", "ground hauls", (HAULS,)),
    ("hauls", "may_lie", "ground hauls block", "ground hauls block", (HAULS, 0)),
    ("hauls", "recalled", "ground hauls lot", "ground hauls lot", (HAULS, (0, 3))),
    ("hauls", "spoilt", "ground hauls lot", "ground hauls lot", (HAULS, (0, 3))),
    ("hauls", "way_to", "ground hauls block heap", "ground hauls block heap", (HAULS, 0, 4)),
    ("hauls", "shows_way", "ground hauls block value", "ground hauls block any", (HAULS, 0, (0, 0, 0, 0, 1))),
    ("hauls", "spoilt_range", "ground hauls lot heap", "ground hauls lot heap", (HAULS, (0, 3), 1)),
    ("texts", "write", "ground worths", "ground worths", (WORTHS,)),
    ("averages", "shares_hold", "ground worths owners value", "ground worths owners any", (WORTHS, OWNERS, SHARES)),
    ("averages", "average_split", "ground worths owners", "ground worths owners", (WORTHS, OWNERS)),
    ("fairness", "fair_split", "ground worths owners", "ground worths owners", (WORTHS, OWNERS)),
    ("fairness", "fair_ladder", "ground worths owners", "ground worths owners", (WORTHS, OWNERS)),
    ("fairness", "tight_parties", "ground worths owners shares", "ground worths owners shares",
     (WORTHS, OWNERS, SHARES)),
    ("fairness", "spare", "ground worths owners shares one other", "ground worths owners shares owner owner",
     (WORTHS, OWNERS, SHARES, 0, 2)),
    ("fairness", "first_unfair", "ground worths owners shares", "ground worths owners shares",
     (WORTHS, OWNERS, SHARES)),
)


FIRST = {"ground": (Ground(COVERS), COVERS), "table": (Table(COLUMNS, RULES), (COLUMNS, RULES))}


class Call:
    """A function with the names and kinds of its arguments, with arguments that fit, and the shape of the first one."""

    def __init__(self, module, name, names, kinds, arguments):
        self.module, self.name = "pitlots." + module, name
        self.function = getattr(importlib.import_module(self.module), name)
        self.names, self.kinds = names.split(), kinds.split()
        first, self.shape = FIRST[self.kinds[0]]
        self.arguments = (first,) + arguments
        assert len(self.names) == len(self.kinds) == len(self.arguments)

    def title(self):
        return self.module + "." + self.name


CALLS = [Call(*row) for row in TOLD]
