"""The errors of the package: their base class and their fields."""

import unittest

from pitlots import errors

WITHOUT_FIELDS = """
    BadGround BadBlock BadOrder BadLot NotPit BadWorths
    BadGains BadCosts BadPrice BadSharing BadTarget BadGrowths BadYears
    BadPlace BadRow BadPurse BadMachines BadRounds
    BadColumns BadTable BadColumn BadDepth BadProfile BadLimits AtBottom
    BadRefills NotWithin TooGreat TooHigh BadMany
    BadOwners BadOwner BadParty BadSplit NotWhole BadOwnerRow BadShared BadJoin EmptyLot NotTogether
    BadShares NotHeld BadDig BadHeap BadWorth BadNeed CannotDig
""".split()
WITH_FIELDS = {
    "BadCovers": ("index",), "TooMany": ("most",), "BadArms": ("arm", "place"), "BadTurns": ("index",),
    "BadPeriods": ("index",), "BadRules": ("index",), "TooSteep": ("index",), "BadProfiles": ("index",),
    "BadWanted": ("index",), "BadBounds": ("index",), "BadChoices": ("index",), "BadProbes": ("index",),
    "BadLog": ("index",), "BadHauls": ("index",), "InvalidText": ("line", "word"),
}


class ErrorsTest(unittest.TestCase):
    def test_base(self):
        self.assertEqual(errors.PitError.__bases__, (ValueError,))

    def test_all_are_direct_subclasses(self):
        for name in WITHOUT_FIELDS + list(WITH_FIELDS):
            with self.subTest(name):
                self.assertEqual(getattr(errors, name).__bases__, (errors.PitError,))
                self.assertEqual(getattr(errors, name).__module__, "pitlots.errors")

    def test_there_are_no_others(self):
        found = {name for name, value in vars(errors).items() if isinstance(value, type)}
        self.assertEqual(found, set(WITHOUT_FIELDS) | set(WITH_FIELDS) | {"PitError"})

    def test_without_fields(self):
        for name in WITHOUT_FIELDS:
            with self.subTest(name):
                self.assertEqual(vars(getattr(errors, name)()), {})

    def test_with_fields(self):
        for name, fields in WITH_FIELDS.items():
            told = {field: place + 3 for place, field in enumerate(fields)}
            with self.subTest(name):
                self.assertEqual(vars(getattr(errors, name)(*told.values())), told)
                self.assertEqual(vars(getattr(errors, name)(**told)), told)
                self.assertEqual(set(vars(getattr(errors, name)(*[None] * len(fields))).values()), {None})


if __name__ == "__main__":
    unittest.main()
