"""Points 56 and 57: hauls of loads, and where they may lie."""

import itertools
import unittest
from random import Random

from pitlots import errors
from pitlots.grounds import Ground
from pitlots.hauls import loads, may_lie, recalled, shows_way, spoilt, spoilt_range, way_to
from tests import faults, plain

GROUND = Ground(((), (), (0,), (0, 1)))
HAULS = (("put", 0, 0), ("put", 1, 0), ("move", 0, 4, 1), ("put", 3, 0), ("move", 0, 1, 2))
# With what else is told to each function, to be right or to be told behind the hauls.
FUNCTIONS = ((loads, ()), (may_lie, (None,)), (recalled, (None,)), (spoilt, (None,)), (spoilt_range, (None, None)),
             (way_to, (None, None)), (shows_way, (None, None)))


def cases(seed):
    dice = Random(seed)
    for covers in [covers for covers in plain.MIDDLE if len(covers) > 2] * 4:
        yield covers, plain.some_hauls(dice, covers, 200)


def heap_of(heaps, block):
    """The heap on which a block's load lies, None if it was not put."""
    return next((heap for heap in range(5) if block in heaps[heap]), None)


def ways_of(histories, hauls, block):
    """All ways of a block's load."""
    at = [index for index, haul in enumerate(hauls) if haul[:2] == ("put", block)]
    if not at:
        return []
    return sorted({tuple(heap_of(heaps, block) for heaps in history[at[0]:]) for history in histories})


class HaulsTest(unittest.TestCase):
    def test_by_all_that_can_have_been(self):
        seen = {"sure": 0, "some": 0}
        for covers, hauls in cases(56):
            ground, histories = Ground(covers), plain.histories(hauls)
            lasts = [history[-1] if history else (set(),) * 5 for history in histories]
            with self.subTest(covers=covers, hauls=hauls):
                self.assertEqual(loads(ground, hauls), tuple(len(some) for some in lasts[0]))
                for block in range(len(covers)):
                    heaps = {heap_of(heaps, block) for heaps in lasts} - {None}
                    self.assertEqual(may_lie(ground, hauls, block), tuple(sorted(heaps)))
                    seen["some" if len(heaps) > 1 else "sure"] += 1
                for lot in plain.all_lots(covers)[::3] + [tuple(range(len(covers)))]:
                    numbers = [[len(heaps[heap] & set(lot)) for heaps in lasts] for heap in range(5)]
                    self.assertEqual(recalled(ground, hauls, lot), tuple(h for h in range(5) if max(numbers[h])))
                    self.assertEqual(spoilt(ground, hauls, lot), tuple(h for h in range(5) if min(numbers[h])))
                    for heap in range(5):
                        self.assertEqual(spoilt_range(ground, hauls, lot, heap),
                                         (min(numbers[heap]), max(numbers[heap])))
        self.assertTrue(min(seen.values()) > 50, seen)

    def test_ways_by_all_that_can_have_been(self):
        dice, seen = Random(570), {True: 0, False: 0}
        for covers, hauls in cases(57):
            ground, histories = Ground(covers), plain.histories(hauls)
            for block in range(len(covers)):
                ways = ways_of(histories, hauls, block)
                with self.subTest(covers=covers, hauls=hauls, block=block):
                    for heap in range(5):
                        there = [way for way in ways if way[-1] == heap]
                        self.assertEqual(way_to(ground, hauls, block, heap), there[0] if there else None)
                    length = len(ways[0]) if ways else 2
                    near = list(itertools.product(range(5), repeat=length)) if length <= 3 else [
                        tuple(dice.choice((way[at], dice.randrange(5), way[at])) for at in range(length))
                        for way in ways for _ in range(5)]
                    for way in near + ways:
                        seen[way in ways] += 1
                        self.assertIs(shows_way(ground, hauls, block, way), way in ways)
                    for way in ways[:2]:
                        self.assertIs(shows_way(ground, hauls, block, way[1:]), False)
                        self.assertIs(shows_way(ground, hauls, block, way + way[-1:]), False)
        self.assertTrue(min(seen.values()) > 100, seen)

    def test_no_hauls(self):
        for covers in plain.MIDDLE:
            ground, whole = Ground(covers), tuple(range(len(covers)))
            self.assertEqual(loads(ground, ()), (0,) * 5)
            self.assertEqual(may_lie(ground, (), 0), ())
            self.assertEqual((recalled(ground, (), whole), spoilt(ground, (), whole)), ((), ()))
            self.assertEqual([spoilt_range(ground, (), whole, heap) for heap in range(5)], [(0, 0)] * 5)
            self.assertIsNone(way_to(ground, (), 0, 0))
            self.assertIs(shows_way(ground, (), 0, ()), False)

    def test_all_loads_of_a_heap_are_moved(self):
        hauls = (("put", 0, 0), ("put", 1, 0), ("move", 0, 3, 2))
        self.assertEqual(loads(GROUND, hauls), (0, 0, 0, 2, 0))
        for block, way in ((0, (0, 0, 3)), (1, (0, 3))):
            self.assertEqual(may_lie(GROUND, hauls, block), (3,))
            self.assertEqual(way_to(GROUND, hauls, block, 3), way)
            self.assertIsNone(way_to(GROUND, hauls, block, 0))
            self.assertIs(shows_way(GROUND, hauls, block, way[:-1] + (0,)), False)
        self.assertEqual((recalled(GROUND, hauls, (0,)), spoilt(GROUND, hauls, (0,))), ((3,), (3,)))
        self.assertEqual(may_lie(GROUND, hauls[:2] + (("move", 0, 3, 1),), 0), (0, 3))

    def test_a_block_that_was_not_put(self):
        self.assertEqual((may_lie(GROUND, HAULS, 2), recalled(GROUND, HAULS, (2,)), spoilt(GROUND, HAULS, (2,))),
                         ((), (), ()))
        self.assertEqual([way_to(GROUND, HAULS, 2, heap) for heap in range(5)], [None] * 5)
        for value in ((), (0,), (0, 0, 0, 0, 1), None):
            self.assertIs(shows_way(GROUND, HAULS, 2, value), False)
        self.assertEqual(spoilt_range(GROUND, HAULS, (2,), 0), (0, 0))

    def test_put_on_the_last_heap(self):
        hauls = (("put", 0, 4), ("put", 1, 0), ("move", 0, 4, 1))
        self.assertEqual(loads(GROUND, hauls), (0, 0, 0, 0, 2))
        self.assertEqual([way_to(GROUND, hauls, block, 4) for block in (0, 1)], [(4, 4, 4), (0, 4)])
        self.assertEqual(spoilt_range(GROUND, hauls, (0, 1), 4), (2, 2))

    def test_some_are_spoilt_whichever_were_moved(self):
        hauls = (("put", 0, 0), ("put", 1, 0), ("put", 2, 0), ("move", 0, 1, 2))
        for lot, on_0, on_1 in (((), (0, 0), (0, 0)), ((0,), (0, 1), (0, 1)), ((0, 1), (0, 1), (1, 2)),
                                ((0, 1, 2), (1, 1), (2, 2)), ((0, 1, 2, 3), (1, 1), (2, 2)), ((3,), (0, 0), (0, 0))):
            self.assertEqual(spoilt_range(GROUND, hauls, lot, 0), on_0)
            self.assertEqual(spoilt_range(GROUND, hauls, lot, 1), on_1)
            self.assertEqual(recalled(GROUND, hauls, lot), tuple(h for h, some in enumerate((on_0, on_1)) if some[1]))
            self.assertEqual(spoilt(GROUND, hauls, lot), tuple(h for h, some in enumerate((on_0, on_1)) if some[0]))

    def test_what_lies_there_already_can_be_moved_on(self):
        # The least way is told step by step, whatever the last heap is.
        hauls = (("put", 0, 3), ("put", 1, 3), ("move", 3, 1, 1), ("move", 3, 0, 1), ("move", 1, 0, 1))
        self.assertEqual(way_to(GROUND, hauls, 0, 0), (3, 3, 1, 1, 0))
        self.assertEqual(way_to(GROUND, hauls, 1, 0), (3, 1, 1, 0))
        self.assertIs(shows_way(GROUND, hauls, 0, (3, 3, 3, 0, 0)), True)
        self.assertIs(shows_way(GROUND, hauls, 0, (3, 3, 3, 3, 0)), False)

    def test_sixteen_and_seventeen_hauls(self):
        hauls = (("put", 0, 0), ("put", 1, 0)) + (("move", 0, 1, 1), ("move", 1, 0, 1)) * 7
        self.assertEqual((len(hauls), loads(GROUND, hauls)), (16, (2, 0, 0, 0, 0)))
        self.assertEqual(way_to(GROUND, hauls, 0, 0), (0,) * 16)
        self.assertIs(shows_way(GROUND, hauls, 0, (0, 0) + (1, 0) * 7), True)
        self.assertIs(shows_way(GROUND, hauls, 0, (0, 0) + (1, 0) * 6 + (1, 1)), False)
        self.tell(None, hauls + (("put", 2, 0),))
        self.tell(None, (None,) * 17)
        self.tell(15, hauls[:15] + (None,))
        ten = Ground(((),) * 10)
        many = tuple(("put", block, 0) for block in range(10)) + tuple(("move", 0, 1 + at // 2, 1) for at in range(6))
        self.assertEqual(loads(ten, many), (4, 2, 2, 2, 0))
        self.assertEqual(spoilt_range(ten, many, tuple(range(7)), 0), (1, 4))
        self.assertEqual((recalled(ten, many, (9,)), spoilt(ten, many, tuple(range(9)))), ((0, 1, 2, 3), (0, 1, 2, 3)))

    def tell(self, index, hauls):
        for function, rest in FUNCTIONS:
            with self.subTest(function.__name__, hauls=str(hauls)[:80]):
                with self.assertRaises(errors.BadHauls) as caught:
                    function(GROUND, hauls, *rest)
                self.assertEqual(vars(caught.exception), {"index": index})
                self.assertRaises(errors.BadGround, function, None, hauls, *rest)

    def test_hauls_that_cannot_be_done(self):
        put = ("put", 0, 0)
        for hauls, index in (((put, put), 1), ((put, ("put", 0, 1)), 1), ((("put", 2, 0),), 0),
                             ((put, ("put", 3, 0)), 1), ((put, ("put", 1, 0), ("put", 3, 0), ("put", 3, 0)), 3),
                             ((("move", 0, 1, 1),), 0), ((put, ("move", 1, 0, 1)), 1), ((put, ("move", 0, 1, 2)), 1),
                             ((put, ("move", 0, 1, 1), ("move", 0, 1, 1)), 2), ((put, ("move", 0, 0, 1)), 1),
                             ((put, ("move", 0, 1, 0)), 1), ((put, ("move", 0, 1, -1)), 1),
                             ((("put", 0, 4), ("move", 4, 0, 1)), 1), ((put, ("move", 0, 5, 1)), 1),
                             ((put, ("move", 0, -1, 1)), 1), ((put, ("move", -1, 0, 1)), 1), ((("put", 0, 5),), 0),
                             ((put, ("move", 5, 0, 1)), 1), ((("put", 0, -1),), 0), ((("put", 4, 0),), 0),
                             # What cannot be done does not hide that something is wrong behind it.
                             ((put, put, None), 1), ((put, None, put), 1)):
            self.tell(index, hauls)
        self.assertEqual(loads(GROUND, (put, ("move", 0, 4, 1))), (0, 0, 0, 0, 1))

    def test_wrong_hauls(self):
        put = ("put", 0, 0)
        for hauls, index in ((None, None), ([], None), ([put], None), ("", None), (0, None), (True, None), ({}, None),
                             (put, 0), ((put, ()), 1), ((list(put),), 0), ((("put", 0),), 0), ((("put", 0, 0, 1),), 0),
                             ((put, ("move", 0, 1)), 1), ((put, ("move", 0, 1, 1, 1)), 1), ((("Put", 0, 0),), 0),
                             ((("put", True, 0),), 0), ((("put", False, 0),), 0), ((("put", 0, False),), 0),
                             ((put, ("move", 0, 1, True)), 1), ((put, ("move", False, 1, 1)), 1),
                             ((put, ("move", 0, True, 1)), 1), ((put, ("move", 0, 1, "1")), 1),
                             ((put, ("move", 0, None, 1)), 1), ((put, ["move", 0, 1, 1]), 1),
                             ((("put", "0", 0),), 0), ((("put", 0, (0,)),), 0), (((None, 0, 0),), 0), (("put",), 0),
                             ((put, ("put", 0, 1, 1)), 1), ((put, ("move", 0, 1)), 1), ((("move", 0, 1, 1, 0),), 0)):
            self.tell(index, hauls)

    def test_wrong_blocks_lots_and_heaps(self):
        for block in (None, -1, 4, True, False, "0", (0,), [0], {}):
            self.assertRaises(errors.BadBlock, may_lie, GROUND, HAULS, block)
            self.assertRaises(errors.BadBlock, way_to, GROUND, HAULS, block, None)
            self.assertRaises(errors.BadBlock, shows_way, GROUND, HAULS, block, None)
        for lot in (None, 0, True, "", [], [0], (1, 0), (0, 0), (4,), (False,), (0, True), (None,), {0: 0}):
            self.assertRaises(errors.BadLot, recalled, GROUND, HAULS, lot)
            self.assertRaises(errors.BadLot, spoilt, GROUND, HAULS, lot)
            self.assertRaises(errors.BadLot, spoilt_range, GROUND, HAULS, lot, None)
        for heap in (None, -1, 5, True, False, "0", (0,), [0], {}, 10 ** 40):
            self.assertRaises(errors.BadHeap, way_to, GROUND, HAULS, 0, heap)
            self.assertRaises(errors.BadHeap, spoilt_range, GROUND, HAULS, (), heap)
        # A lot need be no pit.
        self.assertEqual(recalled(GROUND, HAULS, (3,)), (1,))

    def test_values_that_are_no_way(self):
        for value in faults.WRONG + ([0, 0, 0, 0, 1], (0, 0, 0, 0, 4), (0, 0, 0, 1, 1), (1, 0, 0, 0, 1),
                                     (0, 0, 0, 0, True), (0, 0, False, 0, 1), ("0", 0, 0, 0, 1), (0, 0, 0, 0, 5),
                                     (0, 0, 0, 0, None), (0, 0, 0, 0, -1), (0, 0, 4, 0, 1), (0, 0, 4, 4, 1),
                                     (0, 0, 0, 1), (0, 0, 0, 0, 0, 1)):
            answer = faults.is_one_of(value, [(0, 0, 0, 0, 1), (0, 0, 4, 4, 4)])
            self.assertIs(shows_way(GROUND, HAULS, 0, value), answer)


if __name__ == "__main__":
    unittest.main()
