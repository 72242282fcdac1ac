"""The errors of the package: their base class and their fields."""

import unittest

from pitlots import errors
from pitlots.arms import arms_behind, arms_next
from pitlots.bounds import sure_pits
from pitlots.changes import back_row
from pitlots.choices import least_regret
from pitlots.depths import best_profile, between, deepened, flattest
from pitlots.desk import Desk
from pitlots.diglogs import digs_of, fits
from pitlots.doubling import doubled, doubled_worths
from pitlots.drawings import drawn, parted
from pitlots.fairness import spare, tight_parties
from pitlots.grounds import Ground, cover, levels, renamed
from pitlots.hauls import loads, way_to
from pitlots.joins import joined
from pitlots.knowing import knowing
from pitlots.ladders import pits_by_year, rates
from pitlots.leases import gain_of
from pitlots.logmends import mended
from pitlots.periods import copies
from pitlots.pits import least_pit, next_blocks
from pitlots.prices import best_at, price_for
from pitlots.probelogs import left_by
from pitlots.probing import fewest_probes, shows_probe_plan
from pitlots.purses import first_paid
from pitlots.refills import best_refill, plan_worth
from pitlots.rounds import fewest_rounds, round_span
from pitlots.rows import place_of, row_at
from pitlots.sharings import paid_at
from pitlots.slopes import Table, as_pit, block_at, count_profiles
from pitlots.splits import all_splits, by_order, holds_for, least_share
from pitlots.texts import read
from pitlots.worths import best_worth

WITHOUT_FIELDS = """
    BadGround BadBlock BadOrder BadLot NotPit BadWorths
    BadGains BadCosts BadPrice BadSharing BadTarget BadGrowths BadYears
    BadPlace BadRow BadPurse BadMachines BadRounds
    BadColumns BadTable BadColumn BadDepth BadProfile BadLimits AtBottom
    BadRefills NotWithin TooGreat TooHigh BadMany
    BadOwners BadOwner BadParty BadSplit NotWhole BadOwnerRow BadShared BadJoin EmptyLot NotTogether
    BadShares NotHeld BadDig BadHeap BadWorth BadNeed CannotDig
""".split()
WITH_FIELDS = {
    "BadCovers": ("index",), "TooMany": ("most",), "BadArms": ("arm", "place"), "BadTurns": ("index",),
    "BadPeriods": ("index",), "BadRules": ("index",), "TooSteep": ("index",), "BadProfiles": ("index",),
    "BadWanted": ("index",), "BadBounds": ("index",), "BadChoices": ("index",), "BadProbes": ("index",),
    "BadLog": ("index",), "BadHauls": ("index",), "InvalidText": ("line", "word"),
}

GROUND, TEN = Ground(((), (0,))), Ground(((),) * 10)
TABLE = Table((2, 1), ((1, 1),))
ZEROS, ONES, SHARES = (0, 0), (1, 1), ((0, 1),) * 4
ARMS = ((("dig", 0), ("dig", 1)),)


def desk_with(*dug):
    """A desk at which some blocks are dug."""
    desk = Desk(GROUND, ZEROS)
    for block in dug:
        desk.dig(block)
    return desk


# An error, its fields, and calls that raise it: a function and its arguments.
RAISED = (
    ("BadGround", {}, ((levels, None), (joined, GROUND, None, ()), (Desk, 1, ZEROS))),
    ("BadCovers", {"index": None}, ((Ground, []),)),
    ("BadCovers", {"index": 1}, ((Ground, ((), (1,))),)),
    ("BadBlock", {}, ((cover, GROUND, 2), (desk_with().dig, True))),
    ("BadOrder", {}, ((renamed, GROUND, (1, 0)),)),
    ("BadLot", {}, ((least_pit, GROUND, (2,)), (drawn, GROUND, [0]))),
    ("NotPit", {}, ((next_blocks, GROUND, (1,)), (back_row, GROUND, (), (1,)))),
    ("BadWorths", {}, ((best_worth, GROUND, (0,)), (Desk, GROUND, (0, 51)))),
    ("TooMany", {"most": 2000}, ((digs_of, TEN, (("lost",),) * 4),
                                 (all_splits, Ground(((), (0,), (1,), (1,))), (0, 0, 50, 50), (0, 1, 2, 2)))),
    ("TooMany", {"most": 3000}, ((fewest_probes, TEN, ((0, 1),) * 10),)),
    ("TooMany", {"most": 5000}, ((knowing, TEN, ((0, 1, 2),) * 8 + ((0,),) * 2),)),
    ("BadGains", {}, ((rates, GROUND, (0, 10), ZEROS),)),
    ("BadCosts", {}, ((rates, GROUND, ZEROS, (0, 51)),)),
    ("BadPrice", {}, ((best_at, GROUND, ZEROS, ZEROS, (2, 2)),)),
    ("BadSharing", {}, ((paid_at, GROUND, ONES, ONES, None, (1, 1)),)),
    ("BadTarget", {}, ((price_for, GROUND, ZEROS, ZEROS, 501),)),
    ("BadGrowths", {}, ((pits_by_year, GROUND, ZEROS, ZEROS, (1, 1), (0, -1), 1),)),
    ("BadYears", {}, ((pits_by_year, GROUND, ZEROS, ZEROS, (1, 1), ZEROS, 21),)),
    ("BadPlace", {}, ((row_at, GROUND, (0, 1), 1),)),
    ("BadRow", {}, ((place_of, GROUND, (0, 1), (1, 0)),)),
    ("BadPurse", {}, ((first_paid, GROUND, ZEROS, (), -1),)),
    ("BadMachines", {}, ((fewest_rounds, GROUND, (), 5),)),
    ("BadRounds", {}, ((round_span, GROUND, (), 1, 11, 0),)),
    ("BadArms", {"arm": None, "place": None}, ((arms_next, GROUND, (), ()),)),
    ("BadArms", {"arm": 1, "place": None}, ((arms_next, GROUND, ((), None), ()),)),
    ("BadArms", {"arm": 0, "place": 1}, ((arms_next, GROUND, ((("leave",), ("dig", 2)),), ()),)),
    ("BadTurns", {"index": None}, ((arms_behind, GROUND, ARMS, None),)),
    ("BadTurns", {"index": 2}, ((arms_behind, GROUND, ARMS, (0, 0, 0)),)),
    ("BadPeriods", {"index": None}, ((copies, GROUND, ()),)),
    ("BadPeriods", {"index": 0}, ((copies, GROUND, ((0, 26),)),)),
    ("BadColumns", {}, ((Table, (11,), ()),)),
    ("BadRules", {"index": None}, ((Table, (1, 1), ()),)),
    ("BadRules", {"index": 0}, ((Table, (1, 1), ((1, 10),)),)),
    ("TooSteep", {"index": 0}, ((Table, (3, 1), ((1, 1),)),)),
    ("BadTable", {}, ((count_profiles, GROUND),)),
    ("BadColumn", {}, ((block_at, TABLE, 2, 1),)),
    ("BadDepth", {}, ((block_at, TABLE, 1, 2),)),
    ("BadProfile", {}, ((as_pit, TABLE, (2, 0)),)),
    ("BadLimits", {}, ((between, TABLE, (3, None)),)),
    ("AtBottom", {}, ((deepened, TABLE, (2, 1), 0),)),
    ("BadProfiles", {"index": None}, ((flattest, TABLE, None),)),
    ("BadProfiles", {"index": 1}, ((flattest, TABLE, ((0, 0), (0, 2))),)),
    ("BadWanted", {"index": None}, ((best_profile, TABLE, ()),)),
    ("BadWanted", {"index": 1}, ((best_profile, TABLE, ((0, 0), (51,))),)),
    ("BadRefills", {}, ((best_refill, GROUND, ZEROS, (0, 51)),)),
    ("NotWithin", {}, ((plan_worth, GROUND, ZEROS, ZEROS, (), (0,)),)),
    ("TooGreat", {}, ((doubled, TEN),)),
    ("TooHigh", {}, ((doubled_worths, GROUND, (50, 0), (1, 0)),)),
    ("BadBounds", {"index": None}, ((sure_pits, GROUND, ()),)),
    ("BadBounds", {"index": 1}, ((sure_pits, GROUND, ((0, 0), (1, 0))),)),
    ("BadChoices", {"index": None}, ((least_regret, GROUND, ()), (knowing, GROUND, ()))),
    ("BadChoices", {"index": 1}, ((least_regret, GROUND, ((0,), ())), (knowing, GROUND, ((0,), (1, 1))))),
    ("BadMany", {}, ((shows_probe_plan, GROUND, ((0,), (0,)), 11, None),)),
    ("BadProbes", {"index": None}, ((left_by, GROUND, ((0,), (0,)), None),)),
    ("BadProbes", {"index": 0}, ((left_by, GROUND, ((0,), (0,)), (("told", 0, 51),)),)),
    ("BadOwners", {}, ((gain_of, GROUND, ZEROS, (0, 4), ()),)),
    ("BadOwner", {}, ((least_share, GROUND, ZEROS, ZEROS, 4), (spare, GROUND, ZEROS, ZEROS, SHARES, 0, 4))),
    ("BadParty", {}, ((gain_of, GROUND, ZEROS, ZEROS, (1, 0)),)),
    ("BadSplit", {}, ((holds_for, GROUND, ZEROS, ZEROS, (0, 0, 0)),)),
    ("NotWhole", {}, ((holds_for, GROUND, ZEROS, ZEROS, (0, 0, 0, 1)),
                      (tight_parties, GROUND, ZEROS, ZEROS, ((1, 2),) + SHARES[1:]))),
    ("BadOwnerRow", {}, ((by_order, GROUND, ZEROS, ZEROS, (0, 1, 2, 2)),)),
    ("BadShared", {}, ((joined, GROUND, GROUND, ((0, 2),)),)),
    ("BadJoin", {}, ((joined, GROUND, GROUND, ((0, 1), (1, 0))), (joined, TEN, GROUND, ()))),
    ("EmptyLot", {}, ((parted, GROUND, (0, 1)), (drawn, GROUND, ()))),
    ("NotTogether", {}, ((drawn, Ground(((), (0,), (1,))), (0, 2)),)),
    ("BadShares", {}, ((tight_parties, GROUND, ZEROS, ZEROS, ((0, 2),) + SHARES[1:]),)),
    ("NotHeld", {}, ((tight_parties, GROUND, ZEROS, ZEROS, ((-1, 2), (1, 2), (0, 1), (0, 1))),)),
    ("BadDig", {}, ((fits, GROUND, (1,), ()),)),
    ("BadHeap", {}, ((way_to, GROUND, (), 0, 5),)),
    ("BadWorth", {}, ((desk_with().set_worth, 0, 51),)),
    ("BadNeed", {}, ((desk_with().add_need, 1, 0), (desk_with().drop_need, 0, 1))),
    ("CannotDig", {}, ((desk_with().dig, 1), (desk_with(0).dig, 0))),
    ("BadLog", {"index": None}, ((mended, GROUND, None),)),
    ("BadLog", {"index": 5}, ((mended, GROUND, (("lost",),) * 6),)),
    ("BadHauls", {"index": None}, ((loads, GROUND, None),)),
    ("BadHauls", {"index": 0}, ((loads, GROUND, (("put", 1, 0),)),)),
    ("InvalidText", {"line": 1, "word": 5}, ((read, "block 0 worth 0 needs"),)),
)


class ErrorsTest(unittest.TestCase):
    def test_each_error_is_raised(self):
        self.assertEqual({name for name, _, _ in RAISED}, set(WITHOUT_FIELDS) | set(WITH_FIELDS))
        for name, fields, calls in RAISED:
            self.assertEqual(tuple(fields), WITH_FIELDS.get(name, ()))
            for function, *arguments in calls:
                with self.subTest(name, function=function.__name__):
                    with self.assertRaises(ValueError) as caught:
                        function(*arguments)
                    error = caught.exception
                    self.assertEqual(vars(error), fields)
                    self.assertIs(error.__class__, getattr(errors, name))
                    self.assertIsInstance(error, errors.PitError)
                    others = [other for other in WITHOUT_FIELDS + list(WITH_FIELDS) if other != name]
                    self.assertFalse(isinstance(error, tuple(getattr(errors, other) for other in others)))

    def test_base(self):
        self.assertEqual(errors.PitError.__bases__, (ValueError,))

    def test_all_are_direct_subclasses(self):
        for name in WITHOUT_FIELDS + list(WITH_FIELDS):
            with self.subTest(name):
                self.assertEqual(getattr(errors, name).__bases__, (errors.PitError,))
                self.assertEqual(getattr(errors, name).__module__, "pitlots.errors")

    def test_there_are_no_others(self):
        found = {name for name, value in vars(errors).items() if isinstance(value, type)}
        self.assertEqual(found, set(WITHOUT_FIELDS) | set(WITH_FIELDS) | {"PitError"})

    def test_without_fields(self):
        for name in WITHOUT_FIELDS:
            with self.subTest(name):
                self.assertEqual(vars(getattr(errors, name)()), {})

    def test_with_fields(self):
        for name, fields in WITH_FIELDS.items():
            told = {field: place + 3 for place, field in enumerate(fields)}
            with self.subTest(name):
                self.assertEqual(vars(getattr(errors, name)(*told.values())), told)
                self.assertEqual(vars(getattr(errors, name)(**told)), told)
                self.assertEqual(set(vars(getattr(errors, name)(*[None] * len(fields))).values()), {None})


if __name__ == "__main__":
    unittest.main()
