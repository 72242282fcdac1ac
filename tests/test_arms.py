"""Point 22: arms that dig side by side."""

import unittest
from math import factorial
from random import Random

from pitlots import errors
from pitlots.arms import arms_behind, arms_count, arms_next, arms_pits, arms_stuck, arms_whole
from pitlots.grounds import Ground
from pitlots.rows import count_rows
from tests import plain

GROUND = Ground(((), (0,), (0,)))
ARMS = ((("dig", 0), ("wait", 1)), (("stand", 0), ("leave",), ("dig", 1)))


def some_deed(dice, many):
    word = dice.choice(("dig", "dig", "dig", "wait", "stand", "leave"))
    return (word,) if word == "leave" else (word, dice.randrange(many))


def some_arms(dice, many, most):
    """Arms of some deeds, most together, whether they can be done or not."""
    arms = [[] for _ in range(dice.randint(1, 3))]
    for _ in range(dice.randint(0, most)):
        arm = dice.choice(arms)
        if len(arm) < 5:
            arm.append(some_deed(dice, many))
    return tuple(tuple(arm) for arm in arms)


def good_arms(dice, covers, most):
    """Arms whose deeds can all be done, by some turns at least."""
    arms = [[] for _ in range(dice.randint(1, 3))]
    for _ in range(8 * most):
        arm = dice.randrange(len(arms))
        if len(arms[arm]) < 5 and sum(map(len, arms)) < most:
            arms[arm].append(some_deed(dice, len(covers)))
            # The others have done all that they were told by now.
            digging = plain.Digging(covers, arms)
            if not finishes(digging, arms):
                arms[arm].pop()
    return tuple(tuple(arm) for arm in arms)


def tangled_arms(dice, many):
    """Arms that dig each block at most once, some of which can be done, but not by all turns."""
    arms = [[] for _ in range(dice.randint(2, 3))]
    for block in dice.sample(range(many), many):
        arms[dice.randrange(len(arms))].append(("dig", block))
    for _ in range(dice.randint(1, 2)):
        arm, block = dice.choice(arms), dice.randrange(many)
        if len(arm) < 3:
            place = dice.randint(0, len(arm))
            arm.insert(place, ("stand", block))
            arm.insert(dice.randint(place + 1, len(arm)), ("leave",))
    if dice.randint(0, 1):
        arms[0].insert(0, ("wait", dice.randrange(many)))
    return tuple(tuple(arm) for arm in arms)


def finishes(digging, arms):
    """Whether the arms come to an end if always the first one that can goes on."""
    going = [arm for arm in range(len(arms)) if digging.may(arm)]
    while going:
        digging.go(going[0])
        going = [arm for arm in range(len(arms)) if digging.may(arm)]
    return digging.places == [len(deeds) for deeds in arms]


def cases():
    dice = Random(22)
    for covers in plain.SMALL:
        for most in (3, 6, 7):
            yield covers, some_arms(dice, len(covers), most)
            yield covers, good_arms(dice, covers, most)
    for _ in range(120):
        covers = dice.choice((((), ()), ((), (0,)), ((), (), (0,))))
        yield covers, tangled_arms(dice, len(covers))


class ArmsTest(unittest.TestCase):
    def test_by_all_turns(self):
        whole_ones, stuck_ones, both = 0, 0, 0
        for covers, arms in cases():
            ground, every = Ground(covers), plain.turns_of(covers, arms)
            done = [len(deeds) for deeds in arms]
            whole = [turns for turns in every if plain.behind(covers, arms, turns).places == done]
            stuck = [turns for turns in every if turns not in whole and not plain.next_arms(covers, arms, turns)]
            with self.subTest(covers=covers, arms=arms):
                self.assertEqual(arms_whole(ground, arms), min(whole, default=None))
                self.assertEqual(arms_count(ground, arms), len(whole))
                self.assertEqual(arms_stuck(ground, arms),
                                 min(stuck, key=lambda turns: (len(turns), turns), default=None))
                pits = {tuple(sorted(plain.behind(covers, arms, turns).dug)) for turns in every}
                self.assertEqual(arms_pits(ground, arms), [pit for pit in plain.pits_of(covers) if pit in pits])
            whole_ones += bool(whole)
            stuck_ones += bool(stuck)
            both += bool(whole and stuck)
        self.assertTrue(min(whole_ones, stuck_ones) > 20 and both >= 10, (whole_ones, stuck_ones, both))

    def test_behind_and_next(self):
        dice = Random(221)
        for covers, arms in cases():
            every = plain.turns_of(covers, arms)
            for turns in [(), every[-1]] + [dice.choice(every) for _ in range(10)]:
                digging = plain.behind(covers, arms, turns)
                told = tuple(sorted(digging.dug)), tuple(digging.places), tuple(digging.stands)
                self.assertEqual(arms_behind(Ground(covers), arms, turns), told)
                self.assertEqual(arms_next(Ground(covers), arms, turns), plain.next_arms(covers, arms, turns))

    def test_turns_that_cannot_go_on(self):
        dice = Random(222)
        for covers, arms in cases():
            turns = dice.choice(plain.turns_of(covers, arms))
            for arm in range(len(arms)):
                if arm not in plain.next_arms(covers, arms, turns):
                    for more in ((), (0,), ("x",)):
                        self.tell(errors.BadTurns, {"index": len(turns)}, arms_behind, covers, arms,
                                  turns + (arm,) + more)

    def tell(self, error, fields, function, covers, *arguments):
        with self.assertRaises(error) as caught:
            function(Ground(covers), *arguments)
        self.assertEqual(vars(caught.exception), fields)

    def test_no_deeds(self):
        for arms in (((),), ((), ()), ((), (), ())):
            many = len(arms)
            self.assertEqual(arms_behind(GROUND, arms, ()), ((), (0,) * many, (None,) * many))
            self.assertEqual((arms_next(GROUND, arms, ()), arms_whole(GROUND, arms)), ([], ()))
            self.assertEqual((arms_count(GROUND, arms), arms_stuck(GROUND, arms)), (1, None))
            self.assertEqual(arms_pits(GROUND, arms), [()])

    def test_stuck_at_once(self):
        for arms in (((("dig", 1),),), ((("wait", 0),), ()), ((("leave",), ("dig", 0)),)):
            self.assertEqual((arms_whole(GROUND, arms), arms_count(GROUND, arms), arms_stuck(GROUND, arms)),
                             (None, 0, ()))
            self.assertEqual((arms_next(GROUND, arms, ()), arms_pits(GROUND, arms)), ([], [()]))

    def test_nothing_stuck(self):
        arms = ((("dig", 0), ("dig", 1)), (("wait", 0), ("dig", 2)))
        self.assertIsNone(arms_stuck(GROUND, arms))
        self.assertEqual((arms_whole(GROUND, arms), arms_count(GROUND, arms)), ((0, 0, 1, 1), 3))
        self.assertEqual(arms_pits(GROUND, arms), [(), (0,), (0, 1), (0, 2), (0, 1, 2)])

    def test_each_deed(self):
        free = Ground(((), ()))
        for arms, turns, following in (
                # Dig: not twice, not where an arm stands, be it the own one.
                (((("dig", 0), ("dig", 0)),), (0,), []),
                (((("stand", 0), ("dig", 0)),), (0,), []),
                (((("stand", 0), ("dig", 1)),), (0,), [0]),
                (((("stand", 0), ("leave",)), (("dig", 0),)), (0,), [0]),
                (((("stand", 0), ("leave",)), (("dig", 0),)), (0, 0), [1]),
                # Wait: only when it is dug.
                (((("wait", 0),), (("dig", 0),)), (), [1]),
                (((("wait", 0),), (("dig", 0),)), (1,), [0]),
                # Stand: not when one stands somewhere, be it there, not on what is dug; another arm may stand there.
                (((("stand", 0), ("stand", 1)),), (0,), []),
                (((("stand", 0), ("stand", 0)),), (0,), []),
                (((("dig", 0), ("stand", 0)),), (0,), []),
                (((("stand", 0),), (("stand", 0),)), (0,), [1]),
                (((("stand", 0), ("leave",), ("stand", 1)),), (0, 0), [0]),
                # Leave: only when one stands somewhere.
                (((("leave",),), (("stand", 0),)), (1,), []),
                (((("stand", 0), ("leave",), ("leave",)),), (0, 0), [])):
            with self.subTest(arms=arms, turns=turns):
                self.assertEqual(arms_next(free, arms, turns), following)

    def test_two_arms_on_one_block(self):
        free = Ground(((), ()))
        arms = ((("stand", 0), ("leave",)), (("stand", 0), ("leave",)), (("dig", 0),))
        self.assertEqual(arms_next(free, arms, (0, 1, 0)), [1])
        self.assertEqual(arms_behind(free, arms, (0, 1, 0)), ((), (2, 1, 0), (None, 0, None)))
        self.assertEqual(arms_next(free, arms, (0, 1, 0, 1)), [2])

    def test_standing_needs_nothing(self):
        self.assertEqual(arms_behind(GROUND, ((("stand", 2),),), (0,)), ((), (1,), (2,)))

    def test_fifteen_deeds(self):
        arms = tuple(tuple(("dig", 3 * place + arm) for place in range(3)) + (("wait", arm), ("stand", 9))
                     for arm in range(3))
        ground, many = Ground(((),) * 10), factorial(15) // factorial(5) ** 3
        self.assertEqual((arms_count(ground, arms), arms_stuck(ground, arms)), (many, None))
        whole = (0,) * 5 + (1,) * 5 + (2,) * 5
        self.assertEqual(arms_whole(ground, arms), whole)
        self.assertEqual(arms_behind(ground, arms, whole), (tuple(range(9)), (5, 5, 5), (9, 9, 9)))
        self.assertEqual((arms_next(ground, arms, whole), len(arms_pits(ground, arms))), ([], 64))
        self.tell(errors.BadTurns, {"index": None}, arms_behind, ground.covers, arms, whole + (0,))
        self.tell(errors.BadTurns, {"index": 14}, arms_next, ground.covers, arms, whole[:14] + (1,))

    def test_the_least_and_the_shortest(self):
        # Stuck behind (0, 0, 1) and behind (1,): the shortest is told; of two as short ones the least.
        self.assertEqual(arms_stuck(Ground(((), ())), ((("dig", 0), ("dig", 1)), (("stand", 0),))), (1,))
        self.assertEqual(arms_stuck(Ground(((), ())), ((("stand", 1), ("dig", 0)), (("stand", 0), ("dig", 1)))), (0, 0))
        self.assertEqual(arms_stuck(Ground(((), ())), ((("wait", 1), ("dig", 0)), (("stand", 1),), (("stand", 0),))),
                         (1, 2))
        # The least turns to the end may begin with a greater arm.
        self.assertEqual(arms_whole(Ground(((), ())), ((("wait", 1), ("dig", 0)), (("dig", 1),))), (1, 0, 0))

    def test_arms_that_dig_a_pit_go_through_its_rows(self):
        # Of each block just one arm of its own: the turns are the rows.
        for covers in plain.SMALL:
            pit = next((pit for pit in plain.pits_of(covers)[::-1] if len(pit) <= 3))
            arms = tuple((("dig", block),) for block in pit)
            if arms:
                self.assertEqual(arms_count(Ground(covers), arms), count_rows(Ground(covers), pit))

    def test_wrong_arms(self):
        for arms, fields in (
                ((), (None, None)), (((),) * 4, (None, None)), ([()], (None, None)), (None, (None, None)),
                ((None,), (0, None)), (((), [("leave",)]), (1, None)), (((), (), (("leave",),) * 6), (2, None)),
                (((("dig", 3),),), (0, 0)), (((("dig", 0), ("dig", -1)),), (0, 1)), (((), (("dig", True),)), (1, 0)),
                (((("leave",), ("leave", 0)),), (0, 1)), (((("stop",),),), (0, 0)), (((["dig", 0],),), (0, 0)),
                (((("dig", 0),), (("wait",),), None), (1, 0)), ((("dig", 0),), (0, 0)), (((("dig", "0"),),), (0, 0)),
                # The first arm with a fault, not the first arm that is none.
                (((("dig", 9),), None), (0, 0)), ((None, (("dig", 9),)), (0, None))):
            for function, rest in ((arms_behind, ((),)), (arms_next, (None,)), (arms_whole, ()), (arms_count, ()),
                                   (arms_stuck, ()), (arms_pits, ())):
                with self.subTest(function.__name__, arms=arms):
                    self.tell(errors.BadArms, dict(zip(("arm", "place"), fields)), function, GROUND.covers, arms, *rest)

    def test_wrong_turns(self):
        for turns, index in ((None, None), ([], None), ([1], None), ((1,) * 16, None), ((True,), 0), ((1, 2), 1),
                             ((1, -1), 1), ((1, "0"), 1), ((1, 1, 1), 2), ((1, 0), 1), ((0, 1), 1), ((1, 1, None), 2),
                             ((1, 1, 0, 1, 0, 0), 5), ((1, (1,)), 1)):
            for function in (arms_behind, arms_next):
                with self.subTest(function.__name__, turns=turns):
                    self.tell(errors.BadTurns, {"index": index}, function, GROUND.covers, ARMS, turns)


if __name__ == "__main__":
    unittest.main()
