"""Point 42: rows of probes."""

import unittest
from random import Random

from pitlots import errors
from pitlots.grounds import Ground
from pitlots.probelogs import first_against, left_by
from tests import plain

GROUND, CHOICES = Ground(((), (0,))), ((-3, -1), (2, 4))


def told_plainly(choices, probes):
    """The choices that are left, and the index of the first probe that told what was not possible."""
    left = [list(worths) for worths in choices]
    for index, (word, block, worth) in enumerate(probes):
        if word == "told" and left[block].count(worth) == 0:
            return None, index
        left[block] = [worth]
    return tuple(tuple(worths) for worths in left), None


def some_probes(dice, choices):
    probes = []
    for _ in range(dice.randint(0, 12)):
        block = dice.randrange(len(choices))
        if dice.randint(0, 9) < 8:
            # What may well be possible: a worth that it had, or what it was changed to.
            worths = choices[block] + tuple(worth for _, other, worth in probes if other == block)[-1:]
            probes.append(("told", block, dice.choice(worths[-2:])))
        else:
            probes.append(("changed", block, dice.randint(-50, 50)))
    return tuple(probes)


class ProbeLogsTest(unittest.TestCase):
    def test_by_the_words(self):
        dice, seen = Random(42), {True: 0, False: 0}
        for covers in plain.MIDDLE:
            for _ in range(12):
                choices = plain.some_choices(dice, len(covers), 100)
                probes = some_probes(dice, choices)
                left, index = told_plainly(choices, probes)
                seen[left is None] += 1
                with self.subTest(choices=choices, probes=probes):
                    self.assertEqual(left_by(Ground(covers), choices, probes), left)
                    self.assertEqual(first_against(Ground(covers), choices, probes), index)
        self.assertTrue(min(seen.values()) > 50, seen)

    def test_no_probes(self):
        for choices in (CHOICES, ((0,), (-50, 0, 50))):
            self.assertEqual((left_by(GROUND, choices, ()), first_against(GROUND, choices, ())), (choices, None))

    def test_told_and_changed(self):
        for probes, left, index in (
                ((("told", 0, -1),), ((-1,), (2, 4)), None),
                ((("told", 0, -2),), None, 0),
                ((("told", 0, -1), ("told", 0, -1)), ((-1,), (2, 4)), None),
                # Told once, no other worth is possible any more.
                ((("told", 0, -1), ("told", 0, -3)), None, 1),
                ((("changed", 0, 7),), ((7,), (2, 4)), None),
                ((("changed", 0, 7), ("told", 0, 7)), ((7,), (2, 4)), None),
                ((("changed", 0, 7), ("told", 0, -1)), None, 1),
                ((("changed", 0, 7), ("changed", 0, -1)), ((-1,), (2, 4)), None),
                ((("told", 0, -1), ("changed", 0, -3), ("told", 0, -3)), ((-3,), (2, 4)), None),
                # What is told in vain is not mended by a change.
                ((("told", 0, 9), ("changed", 0, 9)), None, 0),
                ((("told", 1, 4), ("told", 0, 4), ("told", 0, 5)), None, 1),
                ((("changed", 0, 50), ("changed", 1, -50)), ((50,), (-50,)), None)):
            with self.subTest(probes):
                self.assertEqual(left_by(GROUND, CHOICES, probes), left)
                self.assertEqual(first_against(GROUND, CHOICES, probes), index)

    def test_twelve_and_thirteen_entries(self):
        row = (("told", 0, -3),) * 11
        self.assertEqual(left_by(GROUND, CHOICES, row + (("told", 1, 4),)), ((-3,), (4,)))
        self.assertEqual(first_against(GROUND, CHOICES, row + (("told", 1, 3),)), 11)
        self.tell(None, row + (("told", 1, 4),) * 2)
        self.tell(None, ((),) * 13)
        self.tell(11, row + (("told", 2, 4),))

    def tell(self, index, probes):
        for function in (left_by, first_against):
            with self.subTest(function.__name__, probes=str(probes)[:80]):
                with self.assertRaises(errors.BadProbes) as caught:
                    function(GROUND, CHOICES, probes)
                self.assertEqual(vars(caught.exception), {"index": index})
                self.assertRaises(errors.BadChoices, function, GROUND, CHOICES[:1], probes)
                self.assertRaises(errors.BadGround, function, None, None, probes)

    def test_wrong_probes(self):
        good = ("told", 0, -3)
        for probes, index in ((None, None), ([], None), ([good], None), ("", None), (0, None), ({}, None), (True, None),
                              (good, 0), ((good, ()), 1), ((good, ("told", 0)), 1), ((good, ("told", 0, -3, 0)), 1),
                              ((good, list(good)), 1), ((("tell", 0, -3),), 0), ((("Told", 0, -3),), 0),
                              ((good, ("told", 2, 4)), 1), ((("changed", -1, 4),), 0), ((("changed", True, 4),), 0),
                              ((("changed", "0", 4),), 0), ((good, ("changed", 0, 51)), 1), ((("told", 0, -51),), 0),
                              ((good, good, ("changed", 0, True)), 2), ((("changed", 0, None),), 0), ((None,), 0),
                              ((("changed", 0, (4,)),), 0), (((None, 0, 4),), 0), ((good, good, None, ()), 2),
                              # A probe that told what was not possible does not hide a wrong entry behind it.
                              ((("told", 0, 9), ("told", 0, 99)), 1)):
            self.tell(index, probes)


if __name__ == "__main__":
    unittest.main()
