"""Points 43 and 44: what it is worth to know worths ahead of digging."""

import unittest
from random import Random

from pitlots import errors
from pitlots.choices import count_cases
from pitlots.grounds import Ground
from pitlots.knowing import knowing, knowing_block, sum_known, sum_unknown
from pitlots.probing import probe_plan
from pitlots.worths import best_worth, worth_of
from tests import plain

GROUND, CHOICES = Ground(((), (0,))), ((-3, -1), (2, 4))
TEN = Ground(((),) * 10)
# No number of cases of ten blocks is between these two but 5000 itself is none: they are products of 2 and 3.
JUST = ((-9, 0, 9),) * 7 + ((-3, 5), (4,), (-4,))
MORE = ((-1, 0, 1),) * 4 + ((0, 1),) * 6


def plain_known(covers, choices):
    return sum(max(plain.worth(case, pit) for pit in plain.pits_of(covers)) for case in plain.cases_of(choices))


def plain_unknown(covers, choices):
    return max(sum(plain.worth(case, pit) for case in plain.cases_of(choices)) for pit in plain.pits_of(covers))


def cases():
    dice = Random(43)
    for covers in plain.MIDDLE:
        for most in (1, 6, 36):
            yield covers, plain.some_choices(dice, len(covers), most)


class KnowingTest(unittest.TestCase):
    def test_by_all_cases(self):
        seen = {"nothing": 0, "something": 0}
        for covers, choices in cases():
            ground = Ground(covers)
            known, unknown = plain_known(covers, choices), plain_unknown(covers, choices)
            with self.subTest(covers=covers, choices=choices):
                self.assertEqual(sum_known(ground, choices), known)
                self.assertEqual(sum_unknown(ground, choices), unknown)
                self.assertEqual(knowing(ground, choices), known - unknown)
                self.assertTrue(knowing(ground, choices) >= 0)
            seen["something" if known > unknown else "nothing"] += 1
        self.assertTrue(min(seen.values()) > 20, seen)

    def test_one_block_by_all_cases(self):
        seen = {"nothing": 0, "some": 0, "all": 0}
        for covers, choices in cases():
            ground, unknown = Ground(covers), plain_unknown(covers, choices)
            for block, worths in enumerate(choices):
                told = sum(plain_unknown(covers, choices[:block] + ((worth,),) + choices[block + 1:])
                           for worth in worths)
                much = knowing_block(ground, choices, block)
                with self.subTest(covers=covers, choices=choices, block=block):
                    self.assertEqual(much, told - unknown)
                    # Knowing one block's worth is never worth more than knowing all, and never costs anything.
                    self.assertTrue(0 <= much <= knowing(ground, choices))
                    if len(worths) == 1:
                        # What a probe of a block that is not open would tell is known.
                        self.assertEqual(much, 0)
                seen["nothing" if much == 0 else "all" if much == knowing(ground, choices) else "some"] += 1
        self.assertTrue(min(seen.values()) > 20, seen)

    def test_a_block_that_is_not_open(self):
        for choices, told in ((((-3,), (2, 4)), (0, 1)), (((-3, -1), (2,)), (1, 0)), (((-3,), (4,)), (0, 0))):
            self.assertEqual(tuple(knowing_block(GROUND, choices, block) for block in (0, 1)), told)

    def test_one_case(self):
        dice = Random(431)
        for covers in plain.GREAT:
            worths = plain.some_worths(dice, len(covers))
            choices, most = tuple((worth,) for worth in worths), best_worth(Ground(covers), worths)
            self.assertEqual((sum_known(Ground(covers), choices), sum_unknown(Ground(covers), choices)), (most, most))
            self.assertEqual(knowing(Ground(covers), choices), 0)

    def test_whoever_goes_by_a_plan_digs_a_best_pit_in_each_case(self):
        dice = Random(441)
        for covers in plain.SMALL:
            ground, choices = Ground(covers), plain.some_choices(dice, len(covers), 24)
            plan, dug = probe_plan(ground, choices), 0
            for case in plain.cases_of(choices):
                step = plan
                while step[0] != "dig":
                    step = dict(step[1])[case[step[0]]]
                dug += worth_of(ground, case, step[1])
            self.assertEqual(sum_known(ground, choices), dug)

    def test_few_and_too_many_cases(self):
        self.assertEqual((count_cases(TEN, JUST), count_cases(TEN, MORE)), (4374, 5184))
        # Of free blocks each is dug just where it is worth something.
        known = 7 * 4374 // 3 * 9 + 4374 // 2 * 5 + 4374 * 4
        unknown = 4374 // 2 * 2 + 4374 * 4
        self.assertEqual((sum_known(TEN, JUST), sum_unknown(TEN, JUST)), (known, unknown))
        self.assertEqual(knowing(TEN, JUST), known - unknown)
        self.assertEqual(knowing_block(TEN, JUST, 0), 4374 // 3 * 9)
        self.assertEqual((knowing_block(TEN, JUST, 7), knowing_block(TEN, JUST, 9)), (4374 // 2 * 3, 0))
        for function, rest in ((sum_known, ()), (sum_unknown, ()), (knowing, ()), (knowing_block, (0,))):
            for choices in (MORE, ((-1, 0, 1),) * 10, ((0,),) + ((-1, 0, 1),) * 8 + ((0,),)):
                with self.assertRaises(errors.TooMany) as caught:
                    function(TEN, choices, *rest)
                self.assertEqual(vars(caught.exception), {"most": 5000})

    def test_fewer_blocks_with_three_worths(self):
        for covers in (((), (0,), (0,), (1, 2), (3,), (3,), (0,)), ((), (), (), (0, 1), (1, 2), (3,), (4,))):
            choices = ((-9, -2, 1), (0, 3, 4), (-50, 1, 50), (-7, 6, 8), (-3, -2, -1), (1, 2, 3), (-4, 0, 9))
            ground = Ground(covers)
            self.assertEqual(sum_known(ground, choices), plain_known(covers, choices))
            self.assertEqual(sum_unknown(ground, choices), plain_unknown(covers, choices))

    def test_wrong_choices(self):
        for function, rest in ((sum_known, ()), (sum_unknown, ()), (knowing, ()), (knowing_block, (None,))):
            for choices, index in ((None, None), (((0,),), None), ([(0,), (0,)], None), (((0,), (0, 0)), 1),
                                   (((1, 0), (0,)), 0), (((0,), (True,)), 1), (((0,), (51,)), 1), (((0,), [0]), 1),
                                   (((0, 1, 2, 3), (0,)), 0), ("00", None), ((0, (0,)), 0)):
                with self.subTest(function.__name__, choices=choices):
                    with self.assertRaises(errors.BadChoices) as caught:
                        function(GROUND, choices, *rest)
                    self.assertEqual(vars(caught.exception), {"index": index})
                    self.assertRaises(errors.BadGround, function, None, choices, *rest)

    def test_wrong_blocks(self):
        for block in (None, -1, 2, 10, True, False, "0", (0,), [0], {}):
            self.assertRaises(errors.BadBlock, knowing_block, GROUND, CHOICES, block)
        # A block that is none is told ahead of too many cases, wrong choices ahead of both.
        for block in (10, True, None):
            self.assertRaises(errors.BadBlock, knowing_block, TEN, MORE, block)
            self.assertRaises(errors.BadChoices, knowing_block, TEN, MORE[1:], block)


if __name__ == "__main__":
    unittest.main()
