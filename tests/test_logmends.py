"""Point 55: logs that no dig fits but for some entries."""

import itertools
import unittest
from random import Random

from pitlots import errors
from pitlots.diglogs import count_digs, digs_of
from pitlots.grounds import Ground
from pitlots.logmends import doubted, mended
from tests import plain

GROUND = Ground(((), (), (0,), (0, 1)))
LOST = ("lost",)


def cases():
    dice = Random(55)
    for covers in plain.SMALL * 5:
        for wrong in (0, 2, 5, 9):
            yield covers, plain.some_log(dice, covers, wrong)


def fits_but_for(covers, log, some):
    """All digs that nearly fit a log but for some entries, ascending."""
    unlike = [(dig, plain.unlike(dig, log)) for dig in plain.digs_of(covers)]
    return [dig for dig, wrong in unlike if wrong is not None and set(wrong) <= set(some)]


class LogMendsTest(unittest.TestCase):
    def test_by_all_entries_and_digs(self):
        seen = {}
        for covers, log in cases():
            told = [index for index, entry in enumerate(log) if entry != LOST]
            if len(told) > 9:
                continue
            found = None
            for some in [some for size in range(len(told) + 1) for some in itertools.combinations(told, size)]:
                digs = fits_but_for(covers, log, some)
                if digs:
                    found = some, digs[0]
                    break
            with self.subTest(covers=covers, log=log):
                self.assertEqual(doubted(Ground(covers), log), found and found[0])
                self.assertEqual(mended(Ground(covers), log), found and found[1])
            size = None if found is None else min(len(found[0]), 3)
            seen[size] = seen.get(size, 0) + 1
        self.assertTrue(min(seen.values()) > 5 and set(seen) == {None, 0, 1, 2, 3}, seen)

    def test_longer_logs_by_all_digs(self):
        seen = 0
        for covers, log in cases():
            unlike = [(plain.unlike(dig, log), dig) for dig in plain.digs_of(covers)]
            unlike = [(len(wrong), wrong, dig) for wrong, dig in unlike if wrong is not None]
            _, wrong, dig = min(unlike) if unlike else (None, None, None)
            seen += len(log) > 9
            with self.subTest(covers=covers, log=log):
                self.assertEqual((doubted(Ground(covers), log), mended(Ground(covers), log)), (wrong, dig))
        self.assertTrue(seen > 20, seen)

    def test_logs_that_fit(self):
        seen = 0
        for covers, log in cases():
            if count_digs(Ground(covers), log):
                seen += 1
                self.assertEqual(doubted(Ground(covers), log), ())
                self.assertEqual(mended(Ground(covers), log), digs_of(Ground(covers), log)[0])
        self.assertTrue(seen > 50, seen)
        self.assertEqual((doubted(GROUND, ()), mended(GROUND, ())), ((), ()))
        self.assertEqual((doubted(GROUND, (LOST,) * 4), mended(GROUND, (LOST,) * 4)), ((), (0, 1, 2, 3)))

    def test_more_digs_than_blocks(self):
        for log in ((LOST,) * 5, (("dug", 0),) * 5, (("dug", 0), ("dug", 1), LOST, ("is", 3), LOST, LOST)):
            self.assertIsNone(doubted(GROUND, log))
            self.assertIsNone(mended(GROUND, log))
        # The second block can be the noted one, not the third one: so the least doubts have the first entry.
        self.assertEqual(doubted(GROUND, (("dug", 0),) * 4), (0, 2, 3))
        self.assertEqual(mended(GROUND, (("dug", 0),) * 4), (1, 0, 2, 3))
        self.assertEqual(doubted(Ground(((),)), (LOST, ("not", 0), ("not", 0))), (1, 2))
        self.assertIsNone(doubted(Ground(((),)), (LOST, LOST)))

    def test_doubts(self):
        for log, wrong, dig in (
                ((("dug", 2),), (0,), (0,)), ((("is", 0),), (0,), ()), ((("not", 0), ("is", 1)), (1,), ()),
                ((("dug", 0), ("not", 0)), (0,), (1,)), ((("dug", 0), ("dug", 1), ("not", 0)), (2,), (0, 1)),
                # Of two entries that cannot both be so the earlier one is doubted.
                ((LOST, ("is", 0), ("not", 0)), (1,), (1,)), ((LOST, ("not", 0), ("is", 0)), (1,), (0,)),
                ((("dug", 3), ("dug", 3), ("dug", 3)), (0, 1), (0, 1, 3)), ((("dug", 3), LOST), (0,), (0, 1)),
                ((("dug", 2), ("dug", 3)), (0, 1), (0, 1)), ((("dug", 0), ("dug", 2), ("is", 1)), (1,), (0, 1)),
                ((("dug", 0), ("dug", 2), ("is", 1), ("is", 1)), (1,), (0, 1)),
                ((("dug", 1), ("dug", 2), ("is", 0), ("is", 2)), (0,), (0, 2)),
                # Lost blocks are never doubted; they may be whatever the others leave.
                ((LOST, ("dug", 0), LOST, ("dug", 3)), (), (1, 0, 2, 3)), ((LOST, LOST, ("not", 0)), (2,), (0, 1))):
            with self.subTest(log):
                self.assertEqual((doubted(GROUND, log), mended(GROUND, log)), (wrong, dig))

    def test_many_blocks_and_entries(self):
        ten, log = Ground(((),) * 10), tuple(("dug", 9) for _ in range(10)) + tuple(("not", b) for b in range(10))
        self.assertEqual(doubted(ten, log), tuple(range(9)) + tuple(range(10, 20)))
        self.assertEqual(mended(ten, log), (0, 1, 2, 3, 4, 5, 6, 7, 8, 9))
        self.assertEqual(doubted(ten, log[1:]), tuple(range(8)) + tuple(range(9, 17)) + (18,))
        self.assertEqual(mended(ten, log[1:]), (0, 1, 2, 3, 4, 5, 6, 7, 9))
        self.assertEqual(mended(ten, (LOST,) * 5 + (("dug", 0),)), (1, 2, 3, 4, 5, 0))

    def test_wrong_logs(self):
        good = ("dug", 0)
        for log, index in ((None, None), ([], None), ([good], None), ("", None), (0, None), (True, None), ({}, None),
                           (good, 0), ((good, ()), 1), ((good, ["lost"]), 1), ((good, ("dug", 4)), 1),
                           ((("lost", 0),), 0), ((("not", -1),), 0), ((("dug", True),), 0), (((None, 0),), 0),
                           ((LOST,) * 6, 5), ((LOST,) * 5 + (good, LOST), 6), ((good,) * 21, None),
                           ((good,) * 19 + (None,), 19), ((("seen", 0),), 0)):
            for function in (doubted, mended):
                with self.subTest(function.__name__, log=str(log)[:80]):
                    with self.assertRaises(errors.BadLog) as caught:
                        function(GROUND, log)
                    self.assertEqual(vars(caught.exception), {"index": index})
                    self.assertRaises(errors.BadGround, function, None, log)


if __name__ == "__main__":
    unittest.main()
