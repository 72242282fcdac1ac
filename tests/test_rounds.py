"""Points 20 and 21: rounds of some machines, and the rounds that dig what is highest first."""

import unittest
from random import Random

from pitlots import errors
from pitlots.grounds import Ground
from pitlots.rounds import best_rounds, fewest_rounds, highest_first, round_count, round_span
from tests import faults, plain

GROUND, WHOLE = Ground(((), (), (0, 1), (1,))), (0, 1, 2, 3)


def cases():
    """Grounds of few blocks, and all rounds of a pit by some machines."""
    dice = Random(20)
    for covers in plain.SMALL:
        pits = plain.pits_of(covers)
        for pit in {pits[-1], dice.choice(pits)}:
            for machines in (1, 2, 3, 4):
                if len(pit) < 6 or machines in (2, 4):
                    yield covers, pit, machines, plain.rounds_of(covers, pit, machines)


def are_plain_rounds(covers, pit, machines, value):
    dug = []
    for lot in value:
        if not 1 <= len(lot) <= machines or list(lot) != sorted(set(lot)):
            return False
        if any(block in dug or not plain.needed(covers, block) <= set(dug) for block in lot):
            return False
        dug += lot
    return sorted(dug) == list(pit)


def plainly_highest_first(covers, pit, machines):
    heights = {}
    for block in pit:
        rows = [row for other in pit for row in plain.chains_from(covers, other) if row[-1] == block]
        heights[block] = max(len(row) for row in rows)
    found, dug = [], set()
    while len(dug) < len(pit):
        free = [block for block in pit if block not in dug and plain.needed(covers, block) <= dug]
        lot = sorted(free, key=lambda block: (-heights[block], block))[:machines]
        found.append(tuple(sorted(lot)))
        dug |= set(lot)
    return tuple(found)


class RoundsTest(unittest.TestCase):
    def test_fewest_and_best(self):
        for covers, pit, machines, every in cases():
            fewest = min(len(value) for value in every)
            self.assertEqual(fewest_rounds(Ground(covers), pit, machines), fewest)
            best = best_rounds(Ground(covers), pit, machines)
            self.assertTrue(are_plain_rounds(covers, pit, machines, best))
            self.assertEqual((len(best), best in every), (fewest, True))
            self.assertEqual(round_count(Ground(covers), pit, machines, best), fewest)

    def test_round_count_of_all_rounds(self):
        for covers, pit, machines, every in cases():
            for value in every[:300]:
                self.assertEqual(round_count(Ground(covers), pit, machines, value), len(value))

    def test_round_count_of_changed_rounds(self):
        dice, seen = Random(201), {True: 0, False: 0}
        for covers, pit, machines, every in cases():
            for _ in range(30):
                value = [list(lot) for lot in dice.choice(every)]
                what = dice.randint(0, 5)
                if what == 0:
                    dice.shuffle(value)
                elif what == 1:
                    value.insert(dice.randint(0, len(value)), [dice.randrange(len(covers))])
                elif what == 2 and value:
                    value.pop(dice.randrange(len(value)))
                elif what == 3 and len(value) > 1:
                    value[0:2] = [sorted(value[0] + value[1])]
                elif what == 4 and value:
                    lot = value.pop(dice.randrange(len(value)))
                    value.insert(dice.randint(0, len(value)), lot)
                else:
                    value.insert(dice.randint(0, len(value)), [])
                value = tuple(tuple(lot) for lot in value)
                right = are_plain_rounds(covers, pit, machines, value)
                seen[right] += 1
                self.assertEqual(round_count(Ground(covers), pit, machines, value), len(value) if right else None)
        self.assertTrue(min(seen.values()) > 100, seen)

    def test_round_span(self):
        for covers, pit, machines, every in cases():
            for rounds in (0, 1, 2, 3, 4, 6, 10):
                fitting = [value for value in every if len(value) <= rounds]
                for block in range(len(covers)):
                    places = {place + 1 for value in fitting for place, lot in enumerate(value) if block in lot}
                    told = (min(places), max(places)) if places else None
                    self.assertEqual(round_span(Ground(covers), pit, machines, rounds, block), told)

    def test_blocks_beside_a_long_chain(self):
        # Two machines dig 3 and 4 beside the chain of 0, 1 and 2, so 5 can be dug in the fourth round.
        ground, pit = Ground(((), (0,), (1,), (), (), (2, 3, 4))), (0, 1, 2, 3, 4, 5)
        self.assertEqual(fewest_rounds(ground, pit, 2), 4)
        self.assertEqual([round_span(ground, pit, 2, 4, block) for block in pit],
                         [(1, 1), (2, 2), (3, 3), (1, 3), (1, 3), (4, 4)])
        self.assertEqual([round_span(ground, pit, 2, 5, block) for block in pit],
                         [(1, 2), (2, 3), (3, 4), (1, 4), (1, 4), (4, 5)])

    def test_empty_pit(self):
        for covers in plain.GREAT:
            for machines in (1, 4):
                arguments = Ground(covers), (), machines
                self.assertEqual((fewest_rounds(*arguments), best_rounds(*arguments), highest_first(*arguments)),
                                 (0, (), ()))
                self.assertEqual((round_count(*arguments, ()), round_count(*arguments, ((),)),
                                  round_count(*arguments, ((0,),))), (0, None, None))
                self.assertIsNone(round_span(*arguments, 0, 0))
                self.assertIsNone(round_span(*arguments, 10, 0))

    def test_ten_blocks(self):
        whole = tuple(range(10))
        for name, machines, told in (("ten free", 1, 10), ("ten free", 3, 4), ("ten free", 4, 3), ("long chain", 4, 10),
                                     ("pyramid", 2, 6), ("pyramid", 4, 4), ("two great layers", 4, 3)):
            ground = Ground(plain.GREAT_SHAPES[name])
            self.assertEqual(fewest_rounds(ground, whole, machines), told)
            self.assertEqual(round_count(ground, whole, machines, best_rounds(ground, whole, machines)), told)
            self.assertTrue(are_plain_rounds(ground.covers, whole, machines, best_rounds(ground, whole, machines)))
            self.assertIsNone(round_span(ground, whole, machines, told - 1, 0))
            self.assertEqual(round_span(ground, whole, machines, 10, 0),
                             (1, {"ten free": 10, "long chain": 1, "pyramid": 7, "two great layers": 8}[name]))

    def test_a_block_beside_the_pit(self):
        self.assertIsNone(round_span(GROUND, (0, 1), 2, 10, 2))
        self.assertIsNone(round_span(GROUND, (0, 1), 2, 10, 3))
        self.assertEqual(round_span(GROUND, (0, 1), 2, 10, 1), (1, 2))

    def test_any_value(self):
        self.assertEqual(round_count(GROUND, WHOLE, 2, ((0, 1), (2, 3))), 2)
        for value in faults.WRONG + (((1, 0), (2, 3)), [(0, 1), (2, 3)], ([0, 1], (2, 3)), ((0, True), (2, 3)),
                                    ((0, 1), (2,)), ((0, 1), (2, 3), ()), ((), (0, 1), (2, 3)), ((0, 1), (2, 3), (3,)),
                                    ((0, 1, 3), (2,)), ((0, 1), (2, 4)), ((0, 1), (2, -1)), ((0, 1), (2, 3), None),
                                    ((0, 1), 2, 3), ((2, 3), (0, 1)), ((0, 0, 1), (2, 3)), ((False, 1), (2, 3)),
                                    ((0, 1), (2, 10 ** 400))):
            with self.subTest(value=str(value)[:40]):
                self.assertIsNone(round_count(GROUND, WHOLE, 2, value))
        self.assertIsNone(round_count(GROUND, WHOLE, 1, ((0, 1), (2, 3))))

    def test_machines(self):
        for machines in (1, 4):
            self.assertEqual(round_count(GROUND, WHOLE, machines, ((0,), (1,), (2,), (3,))), 4)
        for machines in (0, 5, -1, True, None, "2", (2,), 10 ** 400):
            for call in (lambda: fewest_rounds(GROUND, WHOLE, machines), lambda: best_rounds(GROUND, WHOLE, machines),
                         lambda: highest_first(GROUND, WHOLE, machines),
                         lambda: round_count(GROUND, WHOLE, machines, ()),
                         lambda: round_span(GROUND, WHOLE, machines, -1, -1)):
                with self.subTest(machines=str(machines)[:20]), self.assertRaises(errors.BadMachines):
                    call()

    def test_rounds_ahead_of_block(self):
        for rounds in (0, 10):
            round_span(GROUND, WHOLE, 2, rounds, 0)
            with self.assertRaises(errors.BadBlock):
                round_span(GROUND, WHOLE, 2, rounds, 4)
        for rounds in (-1, 11, True, False, None, "2", (2,), 10 ** 400):
            for block in (0, 4, None):
                with self.subTest(rounds=str(rounds)[:20]), self.assertRaises(errors.BadRounds):
                    round_span(GROUND, WHOLE, 2, rounds, block)
        for block in (-1, 4, True, None, "0", (0,)):
            with self.assertRaises(errors.BadBlock):
                round_span(GROUND, (0,), 2, 3, block)

    def test_wrong_pits(self):
        for pit, error in (((3,), errors.NotPit), ((1, 0), errors.BadLot), ((0, True), errors.BadLot)):
            for function, rest in ((fewest_rounds, ()), (best_rounds, ()), (highest_first, ()), (round_count, (0,)),
                                   (round_span, (-1, -1))):
                with self.assertRaises(error):
                    function(GROUND, pit, 0, *rest)


class HighestFirstTest(unittest.TestCase):
    def test_plainly(self):
        for covers in plain.MIDDLE:
            for pit in plain.pits_of(covers)[::5] + plain.pits_of(covers)[-1:]:
                for machines in (1, 2, 3, 4):
                    value = highest_first(Ground(covers), pit, machines)
                    self.assertEqual(value, plainly_highest_first(covers, pit, machines))
                    self.assertTrue(are_plain_rounds(covers, pit, machines, value))

    def test_chains_of_the_pit_alone(self):
        # In the whole ground the longest chain leads to 0, in the pit to 1.
        ground = Ground(((), (), (1,), (0,), (3,)))
        self.assertEqual(highest_first(ground, (0, 1, 2, 3, 4), 1), ((0,), (1,), (3,), (2,), (4,)))
        self.assertEqual(highest_first(ground, (0, 1, 2), 1), ((1,), (0,), (2,)))

    def test_longest_and_not_most(self):
        # Three blocks need 0, but just a chain of two needs leads to 1.
        ground = Ground(((), (), (0,), (0,), (0,), (1,), (5,)))
        self.assertEqual(highest_first(ground, tuple(range(7)), 1)[0], (1,))
        self.assertEqual(highest_first(ground, tuple(range(7)), 2)[:2], ((0, 1), (2, 5)))

    def test_no_rounds_are_fewer_if_each_is_needed_by_one_at_most(self):
        for covers in plain.GREAT:
            users = [sum(block in firsts for firsts in covers) for block in range(len(covers))]
            if max(users) <= 1:
                pit = tuple(range(len(covers)))
                for machines in (1, 2, 3, 4):
                    self.assertEqual(len(highest_first(Ground(covers), pit, machines)),
                                     fewest_rounds(Ground(covers), pit, machines))


if __name__ == "__main__":
    unittest.main()
