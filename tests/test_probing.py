"""Point 41: plans of probes."""

import itertools
import unittest
from random import Random

from pitlots import errors
from pitlots.choices import known_best
from pitlots.grounds import Ground
from pitlots.probing import best_probe, fewest_probes, probe_plan, shows_probe_plan
from tests import faults, plain

GROUND, CHOICES = Ground(((), (0,))), ((-3, -1), (2, 4))
KNOWN = ((-1,), (2, 4))


def only(choices, block, worth):
    return choices[:block] + ((worth,),) + choices[block + 1:]


def open_blocks(choices):
    return [block for block, worths in enumerate(choices) if len(worths) > 1]


class Plainly:
    """Least depths of plans by all plans of all choices."""

    def __init__(self, covers):
        self.covers, self.kept = covers, {}

    def known(self, choices):
        return plain.known_pits(self.covers, choices)

    def through(self, choices, block):
        return 1 + max(self.depth(only(choices, block, worth)) for worth in choices[block])

    def depth(self, choices):
        if choices not in self.kept:
            ways = [self.through(choices, block) for block in open_blocks(choices)]
            self.kept[choices] = 0 if self.known(choices) else min(ways)
        return self.kept[choices]

    def first(self, choices):
        if self.depth(choices) == 0:
            return None
        return min(block for block in open_blocks(choices) if self.through(choices, block) == self.depth(choices))

    def depth_of(self, choices, plan):
        """The depth of what is a plan, None for what is none."""
        head, rest = plan
        if head == "dig":
            return 0 if rest in self.known(choices) else None
        if head not in open_blocks(choices) or [worth for worth, _ in rest] != list(choices[head]):
            return None
        depths = [self.depth_of(only(choices, head, worth), branch) for worth, branch in rest]
        return None if None in depths else 1 + max(depths)

    def some_plan(self, dice, choices):
        """Some plan, that may ask more than it must."""
        known, blocks = self.known(choices), open_blocks(choices)
        if known and (not blocks or dice.randint(0, 2)):
            return "dig", dice.choice(known)
        block = dice.choice(blocks)
        return block, tuple((worth, self.some_plan(dice, only(choices, block, worth))) for worth in choices[block])


def cases():
    dice = Random(41)
    for covers in plain.SMALL:
        for most in (4, 12, 36):
            yield covers, plain.some_choices(dice, len(covers), most)
    for covers in [covers for covers in plain.SMALL if len(covers) <= 4]:
        for _ in range(3):
            # About 0, most of them must be asked for.
            yield covers, tuple(tuple(sorted(dice.sample(range(-3, 4), dice.choice((2, 2, 3))))) for _ in covers)


def changed(dice, covers, plan):
    """A plan with something changed, somewhere."""
    head, rest = plan
    if head != "dig" and dice.randint(0, 3):
        place = dice.randrange(len(rest))
        worth, branch = rest[place]
        return head, rest[:place] + ((worth, changed(dice, covers, branch)),) + rest[place + 1:]
    what = dice.randint(0, 5)
    if what == 0:
        return "dig", dice.choice(plain.pits_of(covers))
    if head == "dig":
        return (dice.randrange(len(covers)), ((0, plan), (1, plan))) if what < 3 else ("dig", rest[1:])
    if what == 1:
        return dice.randrange(len(covers)), rest
    if what == 2:
        return head, rest[:-1]
    if what == 3:
        return head, rest[::-1]
    if what == 4:
        return head, rest + rest[-1:]
    return head, ((rest[0][0] + 1, rest[0][1]),) + rest[1:]


class ProbingTest(unittest.TestCase):
    def test_by_all_plans(self):
        depths = {}
        for covers, choices in cases():
            ground, plainly = Ground(covers), Plainly(covers)
            depth = plainly.depth(choices)
            depths[depth] = depths.get(depth, 0) + 1
            plan = probe_plan(ground, choices)
            with self.subTest(covers=covers, choices=choices):
                self.assertEqual(fewest_probes(ground, choices), depth)
                self.assertEqual(best_probe(ground, choices), plainly.first(choices))
                self.assertEqual(plainly.depth_of(choices, plan), depth)
                for many in range(11):
                    self.assertIs(shows_probe_plan(ground, choices, many, plan), many >= depth)
        self.assertTrue(min(depths.get(depth, 0) for depth in (0, 1, 2, 3)) > 3, depths)

    def test_depth_0(self):
        met = 0
        for covers, choices in cases():
            ground, known = Ground(covers), plain.known_pits(covers, choices)
            for pit in plain.pits_of(covers):
                self.assertIs(shows_probe_plan(ground, choices, 0, ("dig", pit)), pit in known)
            if known:
                met += 1
                self.assertEqual((fewest_probes(ground, choices), best_probe(ground, choices)), (0, None))
                word, pit = probe_plan(ground, choices)
                self.assertEqual((word, pit in known), ("dig", True))
                self.assertEqual(known_best(ground, choices), known[0])
        self.assertTrue(met > 10)

    def test_some_plans(self):
        dice, deeper = Random(411), 0
        for covers, choices in cases():
            plainly = Plainly(covers)
            for _ in range(4):
                plan = plainly.some_plan(dice, choices)
                depth = plainly.depth_of(choices, plan)
                deeper += depth > plainly.depth(choices)
                for many in range(max(0, depth - 1), min(11, depth + 2)):
                    self.assertIs(shows_probe_plan(Ground(covers), choices, many, plan), many >= depth)
        self.assertTrue(deeper > 20)

    def test_changed_plans(self):
        dice, seen = Random(412), {True: 0, False: 0}
        for covers, choices in cases():
            plainly = Plainly(covers)
            for _ in range(12):
                plan = changed(dice, covers, plainly.some_plan(dice, choices))
                depth = plainly.depth_of(choices, plan)
                seen[depth is not None] += 1
                with self.subTest(covers=covers, choices=choices, plan=plan):
                    self.assertIs(shows_probe_plan(Ground(covers), choices, 10, plan), depth is not None)
                    if depth:
                        self.assertIs(shows_probe_plan(Ground(covers), choices, depth - 1, plan), False)
        self.assertTrue(min(seen.values()) > 50, seen)

    def test_the_least_block_is_told(self):
        # Either block tells it: the lesser one is told. Then just the greater one does.
        free = Ground(((), ()))
        self.assertEqual((fewest_probes(free, ((-1, 1), (-1, 1))), best_probe(free, ((-1, 1), (-1, 1)))), (2, 0))
        self.assertEqual((fewest_probes(free, ((1, 2), (-1, 1))), best_probe(free, ((1, 2), (-1, 1)))), (1, 1))
        self.assertEqual((fewest_probes(free, ((0, 1), (-1, 1))), best_probe(free, ((0, 1), (-1, 1)))), (1, 1))
        # The depth is that of the longest way: both blocks are asked for on it, whichever is the first.
        self.assertEqual((fewest_probes(GROUND, ((-3, -1), (2, 4))), best_probe(GROUND, ((-3, -1), (2, 4)))), (2, 0))

    def test_one_worth_each(self):
        dice = Random(413)
        for covers in plain.MIDDLE:
            ground = Ground(covers)
            choices = tuple((worth,) for worth in plain.some_worths(dice, len(covers)))
            self.assertEqual((fewest_probes(ground, choices), best_probe(ground, choices)), (0, None))
            self.assertIs(shows_probe_plan(ground, choices, 0, probe_plan(ground, choices)), True)

    def test_too_many(self):
        ten = Ground(((),) * 10)
        two, three, one = (-1, 1), (-1, 0, 1), (-1,)
        # Two possible worths count 3 times, three 4 times, one once; no product of these is 3000.
        for choices, many in (((three,) + (two,) * 6 + (one,) * 3, 2916), ((two,) * 7 + (one,) * 3, 2187),
                              ((three,) * 4 + (two,) * 2 + (one,) * 4, 2304), ((three,) * 5 + (one,) * 5, 1024)):
            depth = sum(len(worths) > 1 for worths in choices)
            with self.subTest(many=many):
                self.assertEqual((fewest_probes(ten, choices), best_probe(ten, choices)), (depth, 0))
                plan = probe_plan(ten, choices)
                self.assertIs(shows_probe_plan(ten, choices, depth, plan), True)
                self.assertIs(shows_probe_plan(ten, choices, depth - 1, plan), False)
        for choices, many in (((three,) * 5 + (two,) + (one,) * 4, 3072), ((two,) * 8 + (one,) * 2, 6561),
                              ((two,) * 10, 59049), ((three,) * 10, 4 ** 10),
                              ((three,) * 6 + (one,) * 4, 4096), ((three,) * 2 + (two,) * 5 + (one,) * 3, 3888)):
            for function in (fewest_probes, probe_plan, best_probe):
                with self.subTest(function.__name__, many=many):
                    with self.assertRaises(errors.TooMany) as caught:
                        function(ten, choices)
                    self.assertEqual(vars(caught.exception), {"most": 3000})
        # Though a pit is best in all cases.
        self.assertRaises(errors.TooMany, probe_plan, ten, ((1, 2),) * 8 + (one,) * 2)
        self.assertRaises(errors.BadChoices, probe_plan, ten, ((1, 2),) * 9 + ((2, 1),))

    def test_more_cases_than_plans_can_have_are_shown(self):
        ten = Ground(((),) * 10)
        self.assertIs(shows_probe_plan(ten, ((1, 2, 3),) * 10, 0, ("dig", tuple(range(10)))), True)
        self.assertIs(shows_probe_plan(ten, ((-1, 2, 3),) * 10, 0, ("dig", tuple(range(10)))), False)

    def test_a_probe_of_a_block_that_is_not_open(self):
        self.assertIs(shows_probe_plan(GROUND, KNOWN, 5, ("dig", (0, 1))), True)
        self.assertIs(shows_probe_plan(GROUND, KNOWN, 5, (0, ((-1, ("dig", (0, 1))),))), False)
        both = (1, ((2, ("dig", (0, 1))), (4, ("dig", (0, 1)))))
        self.assertIs(shows_probe_plan(GROUND, KNOWN, 1, both), True)
        self.assertIs(shows_probe_plan(GROUND, KNOWN, 0, both), False)
        # Asked twice in one way.
        twice = (1, ((2, both), (4, ("dig", (0, 1)))))
        self.assertIs(shows_probe_plan(GROUND, KNOWN, 5, twice), False)

    def test_values_that_are_none(self):
        good = (1, ((2, ("dig", (0, 1))), (4, ("dig", (0, 1)))))
        wrong = (("dig",), ("dig", (0, 1), ()), ["dig", (0, 1)], ("dig", [0, 1]), ("dig", (False, True)),
                 ("Dig", (0, 1)),
                 ("dig", (1,)), ("dig", (1, 0)), ("dig", (0,)), ("dig", None), (True, good[1]), ("1", good[1]),
                 (None, good[1]), (2, good[1]), (-1, good[1]), (1, list(good[1])), (1, good[1][:1]), (1, good[1][::-1]),
                 (1, good[1] + good[1][1:]), (1, ((2, ("dig", (0, 1))),) * 2), (1, (good[1][0], (4,))),
                 (1, (good[1][0], (4, ("dig", (0, 1)), ()))), (1, (good[1][0], [4, ("dig", (0, 1))])),
                 (1, (good[1][0], (3, ("dig", (0, 1))))), (1, (good[1][0], (4, None))), (1, (good[1][0], None)),
                 (1, ()), (1, None), good + ((),), list(good), (1, {2: ("dig", (0, 1)), 4: ("dig", (0, 1))}))
        for value in wrong + tuple(value for value in faults.WRONG if not faults.is_one_of(value, [good])):
            with self.subTest(str(value)[:60]):
                self.assertIs(shows_probe_plan(GROUND, KNOWN, 10, value), False)
        self.assertIs(shows_probe_plan(GROUND, KNOWN, 10, good), True)

    def test_true_is_neither_a_worth_nor_a_block(self):
        one, left = Ground(((),)), ("dig", ())
        for block, worth, answer in ((0, 1, True), (0, True, False), (False, 1, False), (False, True, False)):
            plan = (block, ((0, left), (worth, ("dig", (0,)))))
            self.assertIs(shows_probe_plan(one, ((0, 1),), 10, plan), answer)

    def test_errors_stand_in_order(self):
        plan = probe_plan(GROUND, CHOICES)
        for many in (-1, 11, True, False, None, "1", (1,), [1], 10 ** 30):
            self.assertRaises(errors.BadMany, shows_probe_plan, GROUND, CHOICES, many, plan)
            self.assertRaises(errors.BadChoices, shows_probe_plan, GROUND, None, many, plan)
            self.assertRaises(errors.BadGround, shows_probe_plan, None, None, many, plan)
        self.assertIs(shows_probe_plan(GROUND, CHOICES, 10, plan), True)
        self.assertIs(shows_probe_plan(GROUND, CHOICES, 0, plan), False)
        for function in (probe_plan, fewest_probes, best_probe):
            for choices, index in ((None, None), (((0,),), None), (((0,), (1, 0)), 1), (((0,), (True,)), 1),
                                   (([0], (0,)), 0)):
                with self.assertRaises(errors.BadChoices) as caught:
                    function(GROUND, choices)
                self.assertEqual(vars(caught.exception), {"index": index})
                self.assertRaises(errors.BadGround, function, GROUND.covers, choices)

    def test_whoever_goes_by_a_plan_digs_a_best_pit(self):
        for covers, choices in itertools.islice(cases(), 0, None, 3):
            plan = probe_plan(Ground(covers), choices)
            for case in plain.cases_of(choices):
                now = plan
                while now[0] != "dig":
                    now = dict(now[1])[case[now[0]]]
                self.assertIn(now[1], plain.best_pits(covers, case))


if __name__ == "__main__":
    unittest.main()
