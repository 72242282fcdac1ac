"""Points 53 and 54: logs of digs with gaps, and the digs that fit them."""

import unittest
from random import Random

from pitlots import errors
from pitlots.diglogs import count_digs, digs_of, first_against, fits, maybe_dug, pits_behind, surely_dug
from pitlots.grounds import Ground
from pitlots.rows import count_rows
from tests import plain

GROUND = Ground(((), (), (0,), (0, 1)))
LOG = (("dug", 0), ("lost",), ("not", 3), ("lost",))
LOST = ("lost",)
ALL_OF_LOG = (digs_of, count_digs, first_against, pits_behind, surely_dug, maybe_dug)


def cases():
    dice = Random(53)
    for covers in plain.SMALL * 4:
        for wrong in (0, 1, 3):
            yield covers, plain.some_log(dice, covers, wrong)


class DigLogsTest(unittest.TestCase):
    def test_by_all_digs(self):
        seen = {"none": 0, "one": 0, "several": 0}
        for covers, log in cases():
            ground, digs = Ground(covers), plain.fitting(covers, log)
            with self.subTest(covers=covers, log=log):
                self.assertEqual(digs_of(ground, log), digs)
                self.assertEqual(count_digs(ground, log), len(digs))
                pits = {tuple(sorted(dig)) for dig in digs}
                self.assertEqual(pits_behind(ground, log), [pit for pit in plain.pits_of(covers) if pit in pits])
                self.assertEqual(surely_dug(ground, log), plain.common(pits) if pits else None)
                self.assertEqual(maybe_dug(ground, log), plain.together(pits) if pits else None)
                against = [index for index in range(len(log)) if not plain.fitting(covers, log[:index + 1])]
                self.assertEqual(first_against(ground, log), against[0] if against else None)
            seen["none" if not digs else "one" if len(digs) == 1 else "several"] += 1
        self.assertTrue(min(seen.values()) > 40, seen)

    def test_fits(self):
        dice, seen = Random(531), {True: 0, False: 0}
        for covers, log in cases():
            many = sum(entry[0] in ("dug", "lost") for entry in log)
            near = [dig for dig in plain.digs_of(covers) if len(dig) in (many - 1, many, many + 1)]
            near = dice.sample(near, min(len(near), 20)) + plain.fitting(covers, log)[:3]
            for dig in near:
                answer = plain.unlike(dig, log) == ()
                with self.subTest(covers=covers, log=log, dig=dig):
                    self.assertIs(fits(Ground(covers), dig, log), answer)
                seen[answer] += 1
        self.assertTrue(min(seen.values()) > 100, seen)

    def test_surely_and_maybe_dug_are_pits(self):
        for covers, log in cases():
            if count_digs(Ground(covers), log):
                pits = plain.pits_of(covers)
                self.assertIn(surely_dug(Ground(covers), log), pits)
                self.assertIn(maybe_dug(Ground(covers), log), pits)

    def test_the_empty_log(self):
        for covers in plain.MIDDLE:
            ground = Ground(covers)
            self.assertEqual((digs_of(ground, ()), count_digs(ground, ()), first_against(ground, ())), ([()], 1, None))
            self.assertEqual((pits_behind(ground, ()), surely_dug(ground, ()), maybe_dug(ground, ())), ([()], (), ()))
            self.assertIs(fits(ground, (), ()), True)
            self.assertIs(fits(ground, (0,), ()), False)

    def test_entries(self):
        for log, digs, against in (
                ((("dug", 2),), [], 0), ((("dug", 0), ("dug", 2)), [(0, 2)], None),
                ((("dug", 0), ("dug", 0)), [], 1), ((("is", 0),), [], 0), ((("not", 0),), [()], None),
                ((("dug", 0), ("is", 0)), [(0,)], None), ((("dug", 0), ("not", 0)), [], 1),
                ((LOST, ("is", 1)), [(1,)], None), ((LOST, ("not", 1)), [(0,)], None),
                ((LOST, ("is", 2)), [], 1), ((("is", 0), LOST), [], 0), ((("not", 0), LOST, ("is", 0)), [(0,)], None),
                ((LOST, ("dug", 3)), [], 1), ((LOST, LOST, ("dug", 3)), [(0, 1, 3), (1, 0, 3)], None),
                ((LOST, ("not", 0), ("dug", 2)), [], 2), ((LOST, ("not", 0), ("not", 1)), [], 2),
                ((LOST, ("dug", 1), ("dug", 0)), [], 2), ((LOST,) * 5, [], 4),
                ((LOST, ("not", 0), LOST, LOST, LOST), [(1, 0, 2, 3), (1, 0, 3, 2)], None)):
            with self.subTest(log):
                self.assertEqual(digs_of(GROUND, log), digs)
                self.assertEqual(first_against(GROUND, log), against)
                for dig in plain.digs_of(GROUND.covers):
                    self.assertIs(fits(GROUND, dig, log), dig in digs)

    def test_what_is_seen_is_asked_then(self):
        # What was seen ahead of a block tells nothing of what is dug behind it.
        self.assertEqual(digs_of(GROUND, (LOST, ("not", 1), LOST, ("is", 1))), [(0, 1)])
        self.assertEqual(digs_of(GROUND, (LOST, LOST, ("not", 1))), [(0, 2)])

    def test_more_digs_than_blocks(self):
        log = tuple(("dug", block) for block in (0, 1, 2, 3))
        self.assertEqual((digs_of(GROUND, log), first_against(GROUND, log)), ([(0, 1, 2, 3)], None))
        for more in (LOST, ("dug", 3), ("not", 3)):
            self.assertEqual(digs_of(GROUND, log + (more,)), [])
            self.assertEqual(count_digs(GROUND, log + (more,)), 0)
            self.assertEqual(first_against(GROUND, log + (more,)), 4)
            self.assertEqual(pits_behind(GROUND, log + (more,)), [])
            self.assertIsNone(surely_dug(GROUND, log + (more,)))
            self.assertIsNone(maybe_dug(GROUND, log + (more,)))

    def test_twenty_entries(self):
        log = (("not", 3),) * 17 + (LOST, ("dug", 1), ("is", 0))
        self.assertEqual((len(log), digs_of(GROUND, log), first_against(GROUND, log)), (20, [(0, 1)], None))
        self.assertIs(fits(GROUND, (0, 1), log), True)
        self.tell(None, log + (("is", 0),))
        self.tell(None, (("not", 3),) * 21)
        self.tell(None, (("not", 4),) * 21)
        self.tell(19, log[:19] + (("is", 4),))
        ten = Ground(((),) * 10)
        whole = tuple(("dug", block) for block in range(10)) + tuple(("is", block) for block in range(10))
        self.assertEqual(digs_of(ten, whole), [tuple(range(10))])

    def test_five_and_six_lost(self):
        ground = Ground(((), (0,), (1,), (2,), (3,), (4,)))
        self.assertEqual(digs_of(ground, (LOST,) * 5), [(0, 1, 2, 3, 4)])
        self.assertEqual(digs_of(ground, (LOST,) * 5 + (("dug", 5),)), [(0, 1, 2, 3, 4, 5)])
        self.tell(5, (LOST,) * 6)
        self.tell(5, (LOST,) * 7)
        self.tell(7, (LOST, ("dug", 0), LOST, LOST, ("is", 0), LOST, LOST, LOST, ("dug", 9)))
        self.tell(3, (LOST,) * 3 + (("dug", 9),) + (LOST,) * 3)

    def test_2000_digs_and_more(self):
        ground = Ground(((), (), (), (), (), (3,), (2,), (2,), (3,)))
        digs = digs_of(ground, (LOST,) * 5)
        self.assertEqual((len(digs), count_digs(ground, (LOST,) * 5)), (2000, 2000))
        self.assertEqual(digs, [dig for dig in plain.digs_of(ground.covers) if len(dig) == 5])
        ground = Ground(((), (), (), (), (), (), (1,), (), (0,)))
        log = (LOST, LOST, ("not", 6), LOST, LOST, ("not", 7), LOST, ("is", 1))
        self.assertEqual(count_digs(ground, log), 2001)
        with self.assertRaises(errors.TooMany) as caught:
            digs_of(ground, log)
        self.assertEqual(vars(caught.exception), {"most": 2000})
        log = log + (("is", 0),)
        self.assertEqual(digs_of(ground, log), plain.fitting(ground.covers, log))

    def test_very_many_digs(self):
        ten, log = Ground(((),) * 10), (LOST,) * 5
        self.assertEqual(count_digs(ten, log), 10 * 9 * 8 * 7 * 6)
        self.assertRaises(errors.TooMany, digs_of, ten, log)
        self.assertIsNone(first_against(ten, log))
        self.assertEqual(len(pits_behind(ten, log)), 252)
        self.assertEqual((surely_dug(ten, log), maybe_dug(ten, log)), ((), tuple(range(10))))
        # On the way there may be more than 2000, if no more than those fit in the end.
        self.assertEqual(len(digs_of(ten, log + tuple(("is", block) for block in range(5)))), 120)

    def test_rows(self):
        # The digs of a pit are its rows.
        for covers in plain.SMALL:
            whole = tuple(range(len(covers)))
            if len(covers) <= 5:
                self.assertEqual(count_digs(Ground(covers), (LOST,) * len(covers)), count_rows(Ground(covers), whole))
                self.assertEqual(digs_of(Ground(covers), (LOST,) * len(covers)), plain.rows_of(covers, whole))

    def tell(self, index, log):
        for function in ALL_OF_LOG:
            with self.subTest(function.__name__, log=str(log)[:80]):
                with self.assertRaises(errors.BadLog) as caught:
                    function(GROUND, log)
                self.assertEqual(vars(caught.exception), {"index": index})
                self.assertRaises(errors.BadGround, function, GROUND.covers, log)
        with self.assertRaises(errors.BadLog) as caught:
            fits(GROUND, (), log)
        self.assertEqual(vars(caught.exception), {"index": index})
        self.assertRaises(errors.BadDig, fits, GROUND, (2,), log)
        self.assertRaises(errors.BadGround, fits, None, (2,), log)

    def test_wrong_logs(self):
        good = ("dug", 0)
        for log, index in ((None, None), ([], None), ([good], None), ("", None), (0, None), (True, None), ({}, None),
                           (good, 0), (LOST, 0), ((good, ()), 1), ((good, ["lost"]), 1), ((good, ["dug", 1]), 1),
                           ((good, ("dug",)), 1), ((good, ("dug", 1, 1)), 1), ((("lost", 0),), 0), ((("is", 4),), 0),
                           ((("not", -1),), 0), ((("dug", True),), 0), ((("is", False),), 0), ((("dug", "0"),), 0),
                           ((("dug", None),), 0), ((("dug", (0,)),), 0), ((("Dug", 0),), 0), ((("Lost",),), 0),
                           ((good, good, ("seen", 0)), 2), (((None, 0),), 0), ((("is",),), 0), (("lost",) * 2, 0),
                           # What no dig fits does not hide a wrong entry behind it.
                           ((good, good, ("not", 4)), 2), ((("is", 3), None), 1)):
            self.tell(index, log)

    def test_wrong_digs(self):
        for dig in (None, 0, True, "", "0", [], [0], (0, 0), (2,), (2, 0), (0, 3), (0, 1, 3, 3), (4,), (-1,), (False,),
                    (0, True), (None,), ("0",), ((0,),), {0: 0}, (0, 1, 2, 3, 0)):
            self.assertRaises(errors.BadDig, fits, GROUND, dig, LOG)
            self.assertRaises(errors.BadDig, fits, GROUND, dig, None)
            self.assertRaises(errors.BadGround, fits, None, dig, None)
        for dig in plain.digs_of(GROUND.covers):
            self.assertIs(fits(GROUND, dig, LOG), dig in ((0, 1, 2), (0, 1, 3), (0, 2, 1)))


if __name__ == "__main__":
    unittest.main()
