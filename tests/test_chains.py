"""Point 3: chains between blocks."""

import itertools
import unittest

from pitlots import errors
from pitlots.chains import chain, shows_chain
from pitlots.grounds import Ground
from tests import faults, plain


def chains_between(covers, one, other):
    return [row for row in plain.chains_from(covers, one) if row[-1] == other]


class ChainTest(unittest.TestCase):
    def test_least_of_the_shortest(self):
        for covers in plain.GREAT:
            ground = Ground(covers)
            for one, other in itertools.product(range(len(covers)), repeat=2):
                rows = chains_between(covers, one, other)
                least = min(rows, key=lambda row: (len(row), row)) if rows else None
                self.assertEqual(chain(ground, one, other), least)

    def test_shorter_is_ahead_of_lesser(self):
        ground = Ground(((), (0,), (0, 1), (1, 2), (0, 3)))
        self.assertEqual(chain(ground, 4, 0), (4, 0))
        self.assertEqual(chain(ground, 3, 0), (3, 1, 0))
        self.assertEqual(chain(ground, 4, 1), (4, 3, 1))

    def test_from_a_block_to_itself(self):
        for covers in plain.GREAT:
            for block in range(len(covers)):
                self.assertEqual(chain(Ground(covers), block, block), (block,))
                self.assertIs(shows_chain(Ground(covers), block, block, (block,)), True)
                self.assertIs(shows_chain(Ground(covers), block, block, (block, block)), False)
                self.assertIs(shows_chain(Ground(covers), block, block, ()), False)

    def test_wrong_blocks(self):
        ground = Ground(((), (0,)))
        for block in (2, -1, True, "0", None, (0,), 10 ** 400):
            for arguments in ((block, 0), (0, block), (block, block)):
                with self.subTest(arguments=str(arguments)[:40]):
                    with self.assertRaises(errors.BadBlock):
                        chain(ground, *arguments)
                    with self.assertRaises(errors.BadBlock):
                        shows_chain(ground, *arguments, (1, 0))


class ShowsChainTest(unittest.TestCase):
    def test_all_rows_of_blocks(self):
        for covers in plain.SMALL:
            ground, blocks = Ground(covers), range(len(covers))
            rows = [row for many in range(4) for row in itertools.product(blocks, repeat=many)]
            for one, other in itertools.product(blocks, repeat=2):
                right = set(chains_between(covers, one, other))
                for row in set(rows) | right:
                    self.assertIs(shows_chain(ground, one, other, row), row in right)

    def test_any_value(self):
        ground = Ground(((), (0,), (0, 1)))
        for value in faults.WRONG + ((2, 1, False), (2, True, 0), (2, 0, 0), [2, 0], (2, 3, 0), (2, -3, 0), (2, "1", 0),
                                    (2, None, 0), (2, (1,), 0), (2, 1, 0, 0), ((2, 0),), (2, 10 ** 400, 0)):
            with self.subTest(value=str(value)[:40]):
                self.assertIs(shows_chain(ground, 2, 0, value), False)
        for value in ((2, 0), (2, 1, 0)):
            self.assertIs(shows_chain(ground, 2, 0, value), True)

    def test_true_is_no_block(self):
        ground = Ground(((), (0,)))
        self.assertIs(shows_chain(ground, 1, 0, (1, 0)), True)
        for value in ((True, 0), (1, False), (True, False)):
            self.assertIs(shows_chain(ground, 1, 0, value), False)


if __name__ == "__main__":
    unittest.main()
