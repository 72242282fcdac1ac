"""Point 59: a desk at which a ground is dug and changed."""

import unittest
from random import Random

from pitlots import errors
from pitlots.desk import Desk
from pitlots.grounds import Ground
from tests import faults, plain

GROUND, WORTHS = Ground(((), (), (0,))), (-2, 1, 5)


class PlainDesk:
    """What a desk should tell: all is done again, deed by deed, from what it began with."""

    def __init__(self, covers, worths):
        self.covers, self.worths, self.deeds, self.taken = covers, worths, [], []

    def now(self, many=None):
        """The covers, the worths and the dug blocks behind the deeds in effect."""
        covers, worths, dug = [set(needs) for needs in self.covers], list(self.worths), []
        for name, *told in self.deeds:
            if name == "dig":
                dug.append(told[0])
            elif name == "set_worth":
                worths[told[0]] = told[1]
            elif name == "add_need":
                covers[told[0]].add(told[1])
            else:
                covers[told[0]].remove(told[1])
        return tuple(tuple(sorted(needs)) for needs in covers), tuple(worths), dug

    def error(self, name, first, other=None):
        """The class of the error that a deed raises, None if it can be done."""
        covers, _, dug = self.now()
        if not faults.is_from_to(first, 0, len(covers) - 1):
            return errors.BadBlock
        if name == "dig":
            return errors.CannotDig if first in dug or not set(covers[first]) <= set(dug) else None
        if name == "set_worth":
            return None if faults.is_from_to(other, -50, 50) else errors.BadWorth
        if not faults.is_from_to(other, 0, len(covers) - 1):
            return errors.BadBlock
        if name == "drop_need":
            return None if other in covers[first] else errors.BadNeed
        wrong = other >= first or other in covers[first] or (first in dug and other not in dug)
        return errors.BadNeed if wrong else None

    def do(self, *deed):
        self.deeds.append(deed)
        self.taken = []

    def undo(self):
        if self.deeds:
            self.taken.append(self.deeds.pop())
            return True
        return False

    def redo(self):
        if self.taken:
            self.deeds.append(self.taken.pop())
            return True
        return False

    def copy(self):
        other = PlainDesk(self.covers, self.worths)
        other.deeds, other.taken = list(self.deeds), list(self.taken)
        return other


def shown(desk):
    """All that a desk tells."""
    return (desk.own_ground.covers, desk.own_worths, desk.own_pit, desk.own_log, len(desk), desk.best())


class DeskTest(unittest.TestCase):
    def check(self, desk, other):
        covers, worths, dug = other.now()
        pits = [pit for pit in plain.pits_of(covers) if set(dug) <= set(pit)]
        self.assertEqual(shown(desk), (covers, worths, tuple(sorted(dug)), tuple(("dug", block) for block in dug),
                                       len(other.deeds), max(plain.worth(worths, pit) for pit in pits)))
        self.assertIsInstance(desk.own_ground, Ground)

    def some_deed(self, dice, many):
        name = dice.choice(("dig", "dig", "set_worth", "add_need", "drop_need"))
        first, other = dice.randrange(-1, many + 1), dice.randrange(-1, many + 1)
        if name == "dig":
            return name, first
        if name == "set_worth":
            return name, first, dice.choice((-51, -50, -3, 0, 3, 50, 51))
        return name, first, other

    def test_by_deeds_done_again(self):
        dice, seen = Random(59), {}
        for covers in plain.SMALL:
            worths = plain.some_worths(dice, len(covers))
            pairs = [(Desk(Ground(covers), worths), PlainDesk(covers, worths))]
            for _ in range(120):
                desk, other = dice.choice(pairs)
                step = dice.randint(0, 11)
                if step <= 1:
                    self.assertIs(desk.undo(), other.undo())
                elif step == 2:
                    self.assertIs(desk.redo(), other.redo())
                elif step == 3 and len(pairs) < 4:
                    pairs.append((desk.copy(), other.copy()))
                else:
                    name, *told = self.some_deed(dice, len(covers))
                    error = other.error(name, *told)
                    seen[name, error] = seen.get((name, error), 0) + 1
                    if error:
                        self.assertRaises(error, getattr(desk, name), *told)
                    else:
                        self.assertIsNone(getattr(desk, name)(*told))
                        other.do(name, *told)
                self.check(desk, other)
            for desk, other in pairs:
                self.check(desk, other)
        self.assertTrue(len(seen) == 12 and min(seen.values()) > 10, seen)

    def test_at_first(self):
        desk = Desk(GROUND, WORTHS)
        self.assertEqual(shown(desk), (GROUND.covers, WORTHS, (), (), 0, 4))
        self.assertEqual(desk.own_ground, GROUND)
        self.assertIs(desk.undo(), False)
        self.assertIs(desk.redo(), False)
        self.assertEqual(shown(desk), (GROUND.covers, WORTHS, (), (), 0, 4))

    def test_undo_and_redo(self):
        desk = Desk(GROUND, WORTHS)
        stands = [shown(desk)]
        for name, told in (("dig", (1,)), ("set_worth", (2, 1)), ("add_need", (2, 1)), ("dig", (0,)), ("dig", (2,)),
                           ("drop_need", (2, 0)), ("set_worth", (2, 1))):
            getattr(desk, name)(*told)
            stands.append(shown(desk))
        self.assertEqual(len(desk), 7)
        for stand in stands[-2::-1]:
            self.assertIs(desk.undo(), True)
            self.assertEqual(shown(desk), stand)
        self.assertIs(desk.undo(), False)
        for stand in stands[1:]:
            self.assertIs(desk.redo(), True)
            self.assertEqual(shown(desk), stand)
        self.assertIs(desk.redo(), False)
        self.assertEqual(shown(desk), stands[-1])

    def test_nothing_is_done_again_behind_a_deed(self):
        desk = Desk(GROUND, WORTHS)
        desk.dig(1)
        desk.dig(0)
        desk.undo()
        desk.undo()
        desk.redo()
        desk.set_worth(0, 7)
        self.assertIs(desk.redo(), False)
        self.assertEqual((desk.own_pit, len(desk)), ((1,), 2))
        # What was taken back behind it can be done again, one time.
        desk.undo()
        self.assertIs(desk.redo(), True)
        self.assertIs(desk.redo(), False)
        self.assertEqual((desk.own_worths, len(desk)), ((7, 1, 5), 2))

    def test_a_deed_that_fails_takes_nothing_from_what_can_be_done_again(self):
        desk = Desk(GROUND, WORTHS)
        desk.dig(1)
        desk.dig(0)
        desk.undo()
        kept = shown(desk)
        for name, told, error in (("dig", (1,), errors.CannotDig), ("dig", (2,), errors.CannotDig),
                                  ("dig", (3,), errors.BadBlock), ("set_worth", (0, 51), errors.BadWorth),
                                  ("set_worth", (3, 0), errors.BadBlock), ("add_need", (2, 0), errors.BadNeed),
                                  ("add_need", (0, 2), errors.BadNeed), ("drop_need", (2, 1), errors.BadNeed),
                                  ("drop_need", (2, 3), errors.BadBlock), ("add_need", (3, 0), errors.BadBlock)):
            self.assertRaises(error, getattr(desk, name), *told)
            self.assertEqual(shown(desk), kept)
        self.assertIs(desk.redo(), True)
        self.assertEqual(desk.own_log, (("dug", 1), ("dug", 0)))

    def test_the_same_worth_again(self):
        desk = Desk(GROUND, WORTHS)
        self.assertIsNone(desk.set_worth(2, 5))
        self.assertEqual((desk.own_worths, len(desk)), (WORTHS, 1))
        self.assertIs(desk.undo(), True)
        self.assertEqual((desk.own_worths, len(desk)), (WORTHS, 0))
        desk.set_worth(2, 50)
        desk.set_worth(0, -50)
        self.assertEqual((desk.own_worths, desk.best()), ((-50, 1, 50), 1))

    def test_needs(self):
        desk = Desk(GROUND, WORTHS)
        self.assertRaises(errors.CannotDig, desk.dig, 2)
        desk.drop_need(2, 0)
        self.assertEqual((desk.own_ground.covers, desk.best()), (((), (), ()), 6))
        desk.dig(2)
        self.assertRaises(errors.BadNeed, desk.add_need, 2, 0)
        desk.dig(0)
        # Of two dug blocks one may need the other, whichever was dug first.
        self.assertIsNone(desk.add_need(2, 0))
        self.assertEqual((desk.own_log, desk.own_pit), ((("dug", 2), ("dug", 0)), (0, 2)))
        self.assertRaises(errors.BadNeed, desk.add_need, 2, 0)
        desk.add_need(1, 0)
        self.assertEqual(desk.own_ground.covers, ((), (0,), (0,)))
        desk.drop_need(1, 0)
        self.assertRaises(errors.BadNeed, desk.drop_need, 1, 0)
        self.assertRaises(errors.BadNeed, desk.add_need, 1, 1)
        self.assertRaises(errors.BadNeed, desk.add_need, 1, 2)
        self.assertEqual(len(desk), 6)

    def test_a_need_that_was_added_bars_a_dig(self):
        desk = Desk(Ground(((), (), ())), (0, 0, 9))
        desk.add_need(2, 1)
        desk.add_need(2, 0)
        self.assertEqual(desk.own_ground.covers, ((), (), (0, 1)))
        self.assertRaises(errors.CannotDig, desk.dig, 2)
        desk.dig(1)
        self.assertRaises(errors.CannotDig, desk.dig, 2)
        desk.drop_need(2, 0)
        self.assertIsNone(desk.dig(2))
        self.assertIs(desk.undo(), True)
        self.assertIs(desk.undo(), True)
        self.assertRaises(errors.CannotDig, desk.dig, 2)

    def test_what_needs_an_undug_block_by_way_of_others(self):
        desk = Desk(Ground(((), (), (1,), ())), (0, -9, 0, 9))
        desk.dig(3)
        self.assertRaises(errors.BadNeed, desk.add_need, 3, 2)
        desk.dig(1)
        desk.dig(2)
        desk.add_need(3, 2)
        self.assertEqual((desk.own_pit, desk.best()), ((1, 2, 3), 0))

    def test_copies_go_their_own_ways(self):
        desk = Desk(GROUND, WORTHS)
        desk.dig(1)
        desk.dig(0)
        desk.undo()
        other = desk.copy()
        self.assertIsInstance(other, Desk)
        self.assertEqual(shown(other), shown(desk))
        kept = shown(desk)
        self.assertIs(other.redo(), True)
        other.dig(2)
        other.add_need(1, 0)
        self.assertEqual(shown(desk), kept)
        self.assertIs(desk.redo(), True)
        self.assertEqual(desk.own_log, (("dug", 1), ("dug", 0)))
        desk.undo()
        desk.undo()
        self.assertEqual((desk.own_pit, other.own_pit, len(other)), ((), (0, 1, 2), 4))
        for _ in range(4):
            self.assertIs(other.undo(), True)
        self.assertIs(other.undo(), False)
        self.assertEqual(shown(other), (GROUND.covers, WORTHS, (), (), 0, 4))
        self.assertNotEqual(desk, shown(desk))

    def test_best(self):
        for covers in plain.SMALL:
            worths = plain.some_worths(Random(591), len(covers))
            desk = Desk(Ground(covers), worths)
            for block in range(len(covers)):
                pits = [pit for pit in plain.pits_of(covers) if set(range(block)) <= set(pit)]
                self.assertEqual(desk.best(), max(plain.worth(worths, pit) for pit in pits))
                desk.dig(block)
            self.assertEqual(desk.best(), sum(worths))

    def test_wrong_grounds_and_worths(self):
        for ground in (None, GROUND.covers, 3, True, "", []):
            self.assertRaises(errors.BadGround, Desk, ground, None)
            self.assertRaises(errors.BadGround, Desk, ground, WORTHS)
        for worths in (None, (), WORTHS[1:], WORTHS + (0,), list(WORTHS), (0, 0, True), (0, 0, 51), (-51, 0, 0), "000"):
            self.assertRaises(errors.BadWorths, Desk, GROUND, worths)

    def test_every_value_in_every_place(self):
        for value in faults.WRONG:
            desk, other = Desk(GROUND, WORTHS), PlainDesk(GROUND.covers, WORTHS)
            desk.dig(1)
            other.do("dig", 1)
            kept = shown(desk)
            for name, told in (("dig", (value,)), ("set_worth", (value, None)), ("set_worth", (0, value)),
                               ("set_worth", (value, 0)), ("add_need", (value, None)), ("add_need", (value, 1)),
                               ("add_need", (2, value)), ("drop_need", (value, 0)), ("drop_need", (2, value)),
                               ("drop_need", (value, None))):
                error = other.error(name, *told)
                with self.subTest(name, told=str(told)[:80]):
                    if error:
                        self.assertRaises(error, getattr(desk, name), *told)
                    else:
                        getattr(desk, name)(*told)
                        desk.undo()
                    self.assertEqual(shown(desk), kept)

    def test_of_two_wrong_arguments_the_first_is_told(self):
        desk = Desk(GROUND, WORTHS)
        self.assertRaises(errors.BadBlock, desk.set_worth, 3, 51)
        self.assertRaises(errors.BadBlock, desk.add_need, True, True)
        self.assertRaises(errors.BadBlock, desk.add_need, 0, 3)
        self.assertRaises(errors.BadBlock, desk.drop_need, 0, -1)
        self.assertRaises(errors.BadWorth, desk.set_worth, 2, True)

    def test_what_it_was_made_of_is_not_changed(self):
        ground, worths = Ground(GROUND.covers), tuple(WORTHS)
        desk = Desk(ground, worths)
        desk.set_worth(0, 9)
        desk.drop_need(2, 0)
        self.assertEqual((ground.covers, worths), (GROUND.covers, WORTHS))


if __name__ == "__main__":
    unittest.main()
