"""Points 38 and 39: what is sure, and what is possible, between bounds."""

import itertools
import unittest
from random import Random

from pitlots import errors
from pitlots.bounds import fates_whatever, is_possible, is_sure, possible_pits, shows_sure, sure_pits, sure_verdict
from pitlots.grounds import Ground
from pitlots.payments import shows_best
from pitlots.worths import all_best, fates
from tests import faults, plain

GROUND, WIDE, GOOD = Ground(((), (0,))), ((-3, -1), (2, 4)), ((-3, -1), (4, 5))


def some_bounds(dice, many):
    width, most = dice.choice(((1, 1), (2, 2), (5, 3), (50, 20), (3, 0)))
    found = []
    for _ in range(many):
        low = dice.randint(-width, width)
        found.append((low, min(50, low + dice.randint(0, most))))
    return tuple(found)


def ends_of(bounds):
    """All cases in which each block is worth its least or its most; no others need be asked, since sums are linear."""
    return [tuple(case) for case in itertools.product(*bounds)]


def all_cases(bounds):
    return list(itertools.product(*[range(low, high + 1) for low, high in bounds]))


def cases():
    dice = Random(38)
    for covers in plain.SMALL:
        for _ in range(5):
            yield covers, some_bounds(dice, len(covers))


class BoundsTest(unittest.TestCase):
    def test_by_all_cases(self):
        seen = {"sure": 0, "possible": 0, "neither": 0}
        for covers, bounds in cases():
            ground, pits = Ground(covers), plain.pits_of(covers)
            best = [plain.best_pits(covers, case) for case in ends_of(bounds)]
            sure = [pit for pit in pits if all(pit in some for some in best)]
            possible = [pit for pit in pits if any(pit in some for some in best)]
            with self.subTest(covers=covers, bounds=bounds):
                self.assertEqual(sure_pits(ground, bounds), sure)
                self.assertEqual(possible_pits(ground, bounds), possible)
                for pit in pits:
                    self.assertIs(is_sure(ground, bounds, pit), pit in sure)
                    self.assertIs(is_possible(ground, bounds, pit), pit in possible)
                told = tuple("must" if all(block in pit for pit in possible)
                             else "may" if any(block in pit for pit in possible) else "never"
                             for block in range(len(covers)))
                self.assertEqual(fates_whatever(ground, bounds), told)
            seen["sure"] += len(sure)
            seen["possible"] += len(possible) - len(sure)
            seen["neither"] += len(pits) - len(possible)
        self.assertTrue(min(seen.values()) > 30, seen)

    def test_cases_within_tell_the_same(self):
        for covers, bounds in cases():
            every = all_cases(bounds)
            if len(every) < 300:
                best = [plain.best_pits(covers, case) for case in every]
                pits = plain.pits_of(covers)
                self.assertEqual(sure_pits(Ground(covers), bounds),
                                 [pit for pit in pits if all(pit in some for some in best)])
                self.assertEqual(possible_pits(Ground(covers), bounds),
                                 [pit for pit in pits if any(pit in some for some in best)])

    def test_one_worth(self):
        dice = Random(381)
        for covers in plain.MIDDLE:
            ground, worths = Ground(covers), plain.some_worths(dice, len(covers))
            bounds = tuple((worth, worth) for worth in worths)
            self.assertEqual(sure_pits(ground, bounds), all_best(ground, worths))
            self.assertEqual(possible_pits(ground, bounds), all_best(ground, worths))
            self.assertEqual(fates_whatever(ground, bounds), fates(ground, worths))

    def test_widest_bounds(self):
        for covers in plain.SMALL:
            ground, bounds = Ground(covers), ((-50, 50),) * len(covers)
            self.assertEqual((sure_pits(ground, bounds), possible_pits(ground, bounds)), ([], plain.pits_of(covers)))
            self.assertEqual(fates_whatever(ground, bounds), ("may",) * len(covers))

    def test_one_and_ten_blocks(self):
        one, ten = Ground(((),)), Ground(((),) * 10)
        for bounds, sure, possible, fate in (((-1, 1), [], [(), (0,)], "may"), ((0, 1), [(0,)], [(), (0,)], "may"),
                                             ((-1, 0), [()], [(), (0,)], "may"), ((1, 2), [(0,)], [(0,)], "must"),
                                             ((-2, -1), [()], [()], "never"), ((0, 0), [(), (0,)], [(), (0,)], "may")):
            self.assertEqual((sure_pits(one, (bounds,)), possible_pits(one, (bounds,))), (sure, possible))
            self.assertEqual(fates_whatever(one, (bounds,)), (fate,))
        bounds = ((1, 50),) * 5 + ((-50, -1),) * 5
        self.assertEqual(sure_pits(ten, bounds), [(0, 1, 2, 3, 4)])
        self.assertEqual(fates_whatever(ten, bounds), ("must",) * 5 + ("never",) * 5)
        self.assertIs(is_sure(ten, bounds, (0, 1, 2, 3, 4)), True)

    def tell(self, index, bounds):
        for function, rest in ((is_sure, (None,)), (is_possible, (None,)), (sure_pits, ()), (possible_pits, ()),
                               (fates_whatever, ()), (sure_verdict, (None,)), (shows_sure, (None, None))):
            with self.subTest(function.__name__, bounds=str(bounds)[:60]):
                with self.assertRaises(errors.BadBounds) as caught:
                    function(GROUND, bounds, *rest)
                self.assertEqual(vars(caught.exception), {"index": index})
                self.assertRaises(errors.BadGround, function, None, bounds, *rest)

    def test_wrong_bounds(self):
        for bounds, index in ((None, None), ((), None), (((0, 0),), None), (((0, 0),) * 3, None),
                              ([(0, 0), (0, 0)], None), ("00", None), (0, None), (True, None),
                              ({0: (0, 0), 1: (0, 0)}, None),
                              (((1, 0), (0, 0)), 0), (((0, 0), (4, 3)), 1), (((0, 0), (0, 51)), 1),
                              (((-51, 0), (0, 0)), 0), (((0, 0), (-60, -51)), 1), (((0, 0), (51, 60)), 1),
                              (((0, 0), (0, True)), 1), (((False, 0), (0, 0)), 0), (((0, 0), [0, 0]), 1),
                              (((0, 0), (0,)), 1), (((0, 0), (0, 0, 0)), 1), (((0, 0), ("0", "1")), 1),
                              (((0, None), None), 0), ((0, 0), 0), (((0, 0), ()), 1)):
            self.tell(index, bounds)
        self.assertEqual(sure_pits(GROUND, ((-50, -50), (50, 50))), [(), (0, 1)])

    def test_wrong_pits(self):
        for function, rest in ((is_sure, ()), (is_possible, ()), (sure_verdict, ()), (shows_sure, (None,))):
            for pit, error in ((None, errors.BadLot), ([0], errors.BadLot), ((1, 0), errors.BadLot),
                               ((2,), errors.BadLot), ((False,), errors.BadLot), ((1,), errors.NotPit)):
                self.assertRaises(error, function, GROUND, WIDE, pit, *rest)


class VerdictsTest(unittest.TestCase):
    def test_verdicts_are_shown(self):
        words = {"sure": 0, "case": 0}
        for covers, bounds in cases():
            ground = Ground(covers)
            for pit in plain.pits_of(covers):
                told = sure_verdict(ground, bounds, pit)
                words[told[0]] += 1
                with self.subTest(covers=covers, bounds=bounds, pit=pit):
                    self.assertIs(shows_sure(ground, bounds, pit, told), True)
                    self.assertEqual(told[0] == "sure", is_sure(ground, bounds, pit))
                    worst = tuple(low if block in pit else high for block, (low, high) in enumerate(bounds))
                    if told[0] == "sure":
                        self.assertEqual(len(told), 2)
                        self.assertIs(shows_best(ground, worst, pit, told[1]), True)
                    else:
                        _, case, other = told
                        self.assertTrue(all(low <= worth <= high for worth, (low, high) in zip(case, bounds)))
                        self.assertIn(other, plain.pits_of(covers))
                        self.assertTrue(plain.worth(case, other) > plain.worth(case, pit))
        self.assertTrue(min(words.values()) > 100, words)

    def test_all_cases_with_all_pits(self):
        seen = {True: 0, False: 0}
        for covers, bounds in cases():
            if len(covers) <= 3:
                pits = plain.pits_of(covers)
                for pit, other in itertools.product(pits, pits):
                    for case in ends_of(tuple((low - 1, high + 1) for low, high in bounds)) + ends_of(bounds):
                        fits = all(low <= worth <= high for worth, (low, high) in zip(case, bounds))
                        answer = fits and plain.worth(case, other) > plain.worth(case, pit)
                        seen[answer] += 1
                        self.assertIs(shows_sure(Ground(covers), bounds, pit, ("case", case, other)), answer)
        self.assertTrue(min(seen.values()) > 50, seen)

    def test_payments_of_the_worst_case_alone(self):
        # In the worst case block 1 is worth 4 and block 0 is 3 below 0.
        for paid, answer in ((((1, 0, 3),), True), (((1, 0, 4),), False), (((1, 0, 1),), False), (((1, 0, 2),), False),
                             ((), False), ([(1, 0, 3)], False), (((1, 0, True),), False), (None, False),
                             (((1, 0, 3), (1, 0, 3)), False), (((0, 1, 3),), False)):
            self.assertIs(shows_sure(GROUND, GOOD, (0, 1), ("sure", paid)), answer)
        for word in ("best", "case", "Sure", b"sure", ("sure",), None, True):
            self.assertIs(shows_sure(GROUND, GOOD, (0, 1), (word, ((1, 0, 3),))), False)
        # For the empty pit block 1 must pay all its 5, but 0 gets no more than 1 at its most.
        self.assertIs(shows_sure(GROUND, GOOD, (), ("sure", ((1, 0, 1),))), False)
        self.assertIs(shows_sure(GROUND, ((-5, -4), (2, 4)), (), ("sure", ((1, 0, 4),))), True)
        self.assertIs(shows_sure(GROUND, ((-5, -4), (2, 4)), (), ("sure", ((1, 0, 2),))), False)

    def test_a_pit_as_good_is_no_better(self):
        self.assertIs(shows_sure(GROUND, WIDE, (), ("case", (-2, 2), (0, 1))), False)
        self.assertIs(shows_sure(GROUND, WIDE, (), ("case", (-1, 2), (0, 1))), True)
        self.assertIs(shows_sure(GROUND, WIDE, (), ("case", (-1, 4), ())), False)
        # It need be neither the best pit nor the worst case.
        self.assertIs(shows_sure(Ground(((), ())), ((0, 3), (0, 3)), (), ("case", (1, 2), (0,))), True)

    def test_values_that_are_none(self):
        for value in faults.WRONG + (("sure",), ("sure", (), ()), ("case", (-1, 4)), ("case", (-1, 4), (0, 1), ()),
                                     ["case", (-1, 4), (0, 1)], ("case", [-1, 4], (0, 1)), ("case", (-1, 4), [0, 1]),
                                     ("case", (-1, 5), (0, 1)), ("case", (0, 4), (0, 1)), ("case", (-1, 4), (1,)),
                                     ("case", (-1, 4), (1, 0)), ("case", (-1, 4, 0), (0, 1)), ("case", (-1,), (0, 1)),
                                     ("case", (-1, True), (0, 1)), ("case", (-1, 4), (False, True)),
                                     ("case", (-1, 4), (0, 2)), ("case", None, None), ("better", (-1, 4), (0, 1)),
                                     ("Case", (-1, 4), (0, 1)), ("sure", ((1, 0, 1),)), ("best", ((1, 0, 1),))):
            with self.subTest(str(value)[:60]):
                self.assertIs(shows_sure(GROUND, WIDE, (), value), False)
        self.assertIs(shows_sure(GROUND, WIDE, (), ("case", (-1, 4), (0, 1))), True)


if __name__ == "__main__":
    unittest.main()
