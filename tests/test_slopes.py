"""Points 25 and 26: tables of columns, their cells and their profiles."""

import itertools
import unittest

from pitlots import errors
from pitlots.grounds import Ground
from pitlots.pits import all_pits
from pitlots.slopes import Table, all_profiles, as_pit, as_profile, block_at, cell_of, count_profiles, ground_of
from pitlots.slopes import is_profile
from tests import faults, plain

TABLE = Table((2, 3, 1), ((1, 1), (2, 1)))


class TablesTest(unittest.TestCase):
    def tell(self, error, fields, columns, rules):
        with self.subTest(columns=str(columns)[:60], rules=str(rules)[:60]):
            with self.assertRaises(error) as caught:
                Table(columns, rules)
            self.assertEqual((caught.exception.__class__, vars(caught.exception)), (error, fields))

    def test_properties_and_equality(self):
        for columns, rules in plain.TABLES:
            table = Table(columns, rules)
            self.assertEqual((table.columns, table.rules), (columns, rules))
            self.assertTrue(table == Table(tuple(list(columns)), tuple([tuple(list(rule)) for rule in rules])))
            self.assertFalse(table != Table(columns, rules))
        for one, other in itertools.permutations(plain.TABLES[:12], 2):
            self.assertEqual(Table(*one) == Table(*other), one == other)

    def test_equal_to_nothing_else(self):
        for value in faults.WRONG + (Ground(((),)), (TABLE.columns, TABLE.rules)):
            self.assertFalse(TABLE == value)
            self.assertTrue(TABLE != value)
        self.assertFalse(Table((1,), ()) == Ground(((),)))
        self.assertFalse(Table((1, 1), ((1, 1),)) == Table((1, 1), ((1, 2),)))
        self.assertFalse(Table((1, 1), ((1, 1),)) == Table((1, 2), ((1, 1),)))

    def test_wrong_columns(self):
        for value in faults.WRONG:
            fits = isinstance(value, tuple) and 1 <= len(value) <= 5
            fits = fits and all(faults.is_from_to(cells, 1, 10) for cells in value) and sum(value) <= 10
            if not fits:
                for rules in ((), None, ((1, 1),)):
                    self.tell(errors.BadColumns, {}, value, rules)
        for columns in ((), (0,), (11,), (5, 6), (1, 0), (1, -1, 1), (1,) * 6, (2, 2, 2, 2, 3), [1], (1, True), ("1",),
                        (1, None), ((1,),), (10 ** 30,), (True,)):
            self.tell(errors.BadColumns, {}, columns, ((1, 1),) * (len(columns) - 1))

    def test_wrong_rules(self):
        for rules, index in (((), None), (((1, 1),), None), (((1, 1),) * 3, None), ([(1, 1), (2, 1)], None),
                             (None, None), (1, None), ("12", None), ({0: (1, 1), 1: (1, 1)}, None),
                             ((None, (1, 1)), 0), (((1, 1), (1,)), 1), (((1, 1), (1, 1, 1)), 1), (((1, 1), [2, 1]), 1),
                             (((0, 1), (2, 1)), 0), (((1, 1), (2, 10)), 1), (((1, 1), (10, 1)), 1),
                             (((1, 1), (2, 0)), 1), (((1, 1), (2, True)), 1), (((True, 1), (2, 1)), 0),
                             (((1, 1), (2, "1")), 1), (((1, 1), (-1, 1)), 1), (((0, 1), None), 0)):
            self.tell(errors.BadRules, {"index": index}, (2, 3, 1), rules)
        self.tell(errors.BadRules, {"index": None}, (1,), ((1, 1),))

    def test_too_steep(self):
        self.tell(errors.TooSteep, {"index": 0}, (1, 3), ((9, 1),))
        self.tell(errors.TooSteep, {"index": 0}, (3, 1), ((1, 9),))
        self.tell(errors.TooSteep, {"index": 1}, (2, 3, 1), ((1, 1), (1, 9)))
        self.tell(errors.TooSteep, {"index": 2}, (1, 1, 1, 4, 1), ((1, 1), (1, 1), (9, 2), (2, 9)))
        # A wrong rule behind a steep one is told ahead of it.
        self.tell(errors.BadRules, {"index": 1}, (3, 1, 1), ((1, 1), (0, 1)))
        self.tell(errors.TooSteep, {"index": 0}, (1, 9), ((9, 7),))
        self.assertEqual(Table((1, 9), ((1, 8),)).rules, ((1, 8),))
        self.assertEqual(Table((9, 1), ((8, 1),)).columns, (9, 1))

    def test_edges(self):
        self.assertEqual((Table((10,), ()).columns, Table((10,), ()).rules), ((10,), ()))
        self.assertEqual(Table((2,) * 5, ((9, 9),) * 4).rules, ((9, 9),) * 4)
        self.assertEqual(Table((1,) * 5, ((1, 1),) * 4).columns, (1,) * 5)


class CellsTest(unittest.TestCase):
    def test_blocks_and_cells(self):
        for columns, rules in plain.TABLES:
            table, cells = Table(columns, rules), plain.cells(columns)
            for block, (depth, column) in enumerate(cells):
                self.assertEqual(block_at(table, column, depth), block)
                self.assertEqual(cell_of(table, block), (column, depth))
            for column, many in enumerate(columns):
                self.assertRaises(errors.BadDepth, block_at, table, column, many + 1)
                self.assertRaises(errors.BadDepth, block_at, table, column, 0)
            self.assertRaises(errors.BadBlock, cell_of, table, len(cells))
            self.assertRaises(errors.BadColumn, block_at, table, len(columns), 1)

    def test_ground(self):
        for columns, rules in plain.TABLES:
            ground = ground_of(Table(columns, rules))
            self.assertIsInstance(ground, Ground)
            self.assertEqual(ground.covers, plain.covers_of(columns, rules))

    def test_ground_of_flat_and_steep_tables(self):
        self.assertEqual(ground_of(Table((3, 3), ((1, 1),))).covers, ((), (), (0, 1), (0, 1), (2, 3), (2, 3)))
        self.assertEqual(ground_of(Table((3, 3), ((9, 9),))).covers, ((), (), (0,), (1,), (2,), (3,)))
        self.assertEqual(ground_of(Table((3, 3), ((9, 2),))).covers, ((), (), (0,), (1,), (2,), (0, 3)))
        self.assertEqual(ground_of(Table((10,), ())).covers, ((),) + tuple((block,) for block in range(9)))

    def test_errors_stand_in_order(self):
        for column, depth, error in ((3, 1, errors.BadColumn), (-1, 0, errors.BadColumn), (True, 1, errors.BadColumn),
                                     (None, None, errors.BadColumn), (0, 3, errors.BadDepth),
                                     (2, True, errors.BadDepth),
                                     (2, 2, errors.BadDepth), (1, "1", errors.BadDepth), (1, 4, errors.BadDepth)):
            self.assertRaises(error, block_at, TABLE, column, depth)
        self.assertEqual([block_at(TABLE, 2, 1), block_at(TABLE, 1, 3)], [2, 5])
        for block in (-1, 6, True, None, (0,), "0", 10 ** 30):
            self.assertRaises(errors.BadBlock, cell_of, TABLE, block)


class ProfilesTest(unittest.TestCase):
    def test_all(self):
        for columns, rules in plain.TABLES:
            table, every = Table(columns, rules), plain.profiles(columns, rules)
            self.assertEqual(all_profiles(table), every)
            self.assertEqual(count_profiles(table), len(every))
            for depths in itertools.product(*[range(-1, most + 2) for most in columns]):
                self.assertIs(is_profile(table, depths), depths in every)

    def test_nothing_and_all(self):
        for columns, rules in plain.TABLES:
            table, nothing = Table(columns, rules), (0,) * len(columns)
            self.assertEqual((all_profiles(table)[0], all_profiles(table)[-1]), (nothing, columns))
            self.assertEqual((as_pit(table, nothing), as_pit(table, columns)), ((), tuple(range(sum(columns)))))
            self.assertEqual((as_profile(table, ()), as_profile(table, tuple(range(sum(columns))))), (nothing, columns))

    def test_profiles_are_the_pits(self):
        for columns, rules in plain.TABLES:
            table, cells = Table(columns, rules), plain.cells(columns)
            pits = []
            for profile in all_profiles(table):
                pit = as_pit(table, profile)
                pits.append(pit)
                self.assertEqual(pit, tuple(block for block, (depth, column) in enumerate(cells)
                                            if depth <= profile[column]))
                self.assertEqual(as_profile(table, pit), profile)
            self.assertEqual(sorted(pits), sorted(all_pits(ground_of(table))))

    def test_values_that_are_none(self):
        every = plain.profiles(TABLE.columns, TABLE.rules)
        for value in faults.WRONG + ([0, 0, 0], (0, 0), (0, 0, 0, 0), (0, 0, True), (False, 0, 0), (0, 0, None),
                                     (2, 3, 2), (0, -1, 0), (2, 0, 0), (0, 3, 1), (0, "0", 0)):
            if not faults.is_one_of(value, every):
                with self.subTest(str(value)[:60]):
                    self.assertIs(is_profile(TABLE, value), False)
                    self.assertRaises(errors.BadProfile, as_pit, TABLE, value)

    def test_pits_that_are_none(self):
        for value, error in (((1, 0), errors.BadLot), ([0], errors.BadLot), ((True,), errors.BadLot),
                             ((6,), errors.BadLot), (None, errors.BadLot), ((3,), errors.NotPit),
                             ((0, 3), errors.NotPit), ((5,), errors.NotPit)):
            self.assertRaises(error, as_profile, TABLE, value)
        self.assertRaises(errors.BadTable, as_profile, Ground(((),)), None)


if __name__ == "__main__":
    unittest.main()
