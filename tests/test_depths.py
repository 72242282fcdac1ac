"""Points 27 to 31: limits, what holds columns, flatter tables, seen depths, and best profiles."""

import itertools
import unittest
from random import Random

from pitlots import errors
from pitlots.depths import best_profile, between, deepened, deepest, flattest, held_by, holder, is_flatter
from pitlots.depths import open_columns, ridges, shallowest, slack
from pitlots.slopes import Table, as_profile, ground_of
from pitlots.worths import best_worth, greatest_best, least_best
from tests import plain

TABLE = Table((2, 3, 1), ((1, 1), (2, 1)))


def some_depths(dice, columns):
    return tuple(dice.randint(0, most) for most in columns)


def limits_of(dice, columns, many):
    """Limits: all of nothing, all of all, and others."""
    return [(0,) * len(columns), columns] + [some_depths(dice, columns) for _ in range(many)]


def lies_below(one, other):
    return all(depth <= more for depth, more in zip(one, other))


def leasts(rows):
    return tuple(min(depths) for depths in zip(*rows))


def greatests(rows):
    return tuple(max(depths) for depths in zip(*rows))


class LimitsTest(unittest.TestCase):
    def test_deepest_and_shallowest(self):
        dice = Random(27)
        for columns, rules in plain.TABLES:
            table, every = Table(columns, rules), plain.profiles(columns, rules)
            for limits in limits_of(dice, columns, 8):
                inside = [profile for profile in every if lies_below(profile, limits)]
                around = [profile for profile in every if lies_below(limits, profile)]
                with self.subTest(columns=columns, rules=rules, limits=limits):
                    self.assertEqual(deepest(table, limits), greatests(inside))
                    self.assertEqual(shallowest(table, limits), leasts(around))
                    self.assertIn(deepest(table, limits), every)
                    self.assertIn(shallowest(table, limits), every)

    def test_both_ends(self):
        for columns, rules in plain.TABLES:
            table, nothing = Table(columns, rules), (0,) * len(columns)
            self.assertEqual((deepest(table, nothing), deepest(table, columns)), (nothing, columns))
            self.assertEqual((shallowest(table, nothing), shallowest(table, columns)), (nothing, columns))

    def test_slack(self):
        for columns, rules in plain.TABLES:
            table = Table(columns, rules)
            for one, other in itertools.product(range(len(columns)), repeat=2):
                low, high = min(one, other), max(one, other)
                told = sum(rule[0] if one < other else rule[1] for rule in rules[low:high])
                self.assertEqual(slack(table, one, other), told)

    def test_holder(self):
        dice = Random(271)
        for columns, rules in plain.TABLES:
            table = Table(columns, rules)
            for limits in limits_of(dice, columns, 8):
                for column in range(len(columns)):
                    told = [other for other in range(len(columns))
                            if limits[other] + slack(table, column, other) == deepest(table, limits)[column]]
                    self.assertEqual(holder(table, limits, column), told[0])

    def test_holder_of_others(self):
        for many, limits, told in ((2, (2, 1, 0), [0, 1, 2]), (2, (2, 2, 0), [0, 2, 2]), (3, (0, 3, 3), [0, 0, 0])):
            table = Table((many,) * 3, ((1, 1), (1, 1)))
            self.assertEqual([holder(table, limits, column) for column in range(3)], told)

    def test_errors(self):
        for limits in (None, [0, 0, 0], (0, 0), (0, 0, 0, 0), (3, 0, 0), (0, -1, 0), (0, 0, True), (0, None, 0),
                       ("0", 0, 0)):
            for function in (deepest, shallowest):
                self.assertRaises(errors.BadLimits, function, TABLE, limits)
                self.assertRaises(errors.BadTable, function, None, limits)
            self.assertRaises(errors.BadLimits, holder, TABLE, limits, None)
        for column in (-1, 3, True, None, "0", (0,)):
            self.assertRaises(errors.BadColumn, holder, TABLE, (0, 0, 0), column)
            self.assertRaises(errors.BadColumn, slack, TABLE, column, 0)
            self.assertRaises(errors.BadColumn, slack, TABLE, 0, column)
            self.assertRaises(errors.BadTable, slack, (2, 3, 1), column, column)


class HoldingTest(unittest.TestCase):
    def test_by_all_profiles(self):
        for columns, rules in plain.TABLES:
            table, every = Table(columns, rules), plain.profiles(columns, rules)
            for profile in every[:150] + every[-20:]:
                held, free = {}, []
                for column, most in enumerate(columns):
                    deeper = profile[:column] + (profile[column] + 1,) + profile[column + 1:]
                    held[column] = [] if profile[column] == most else [
                        place if place != column else place + 1 for place in (column - 1, column)
                        if 0 <= place < len(rules) and not plain.keeps(rules[place:place + 1], deeper[place:place + 2])]
                    if deeper in every:
                        free.append(column)
                    self.assertEqual(held_by(table, profile, column), held[column])
                    self.assertEqual(deeper in every, profile[column] < most and not held[column])
                self.assertEqual(open_columns(table, profile), free)
                self.assertEqual(ridges(table, profile), sorted({other for found in held.values() for other in found}))

    def test_deepened(self):
        for columns, rules in plain.TABLES:
            table, every = Table(columns, rules), plain.profiles(columns, rules)
            for profile in every[:100] + every[-20:]:
                for column, most in enumerate(columns):
                    if profile[column] == most:
                        self.assertRaises(errors.AtBottom, deepened, table, profile, column)
                        continue
                    told = deepened(table, profile, column)
                    self.assertEqual(told, leasts([other for other in every if lies_below(profile, other)
                                                   and other[column] > profile[column]]))
                    self.assertIn(told, every)
                    self.assertEqual(told[column], profile[column] + 1)

    def test_nothing_and_all(self):
        for columns, rules in plain.TABLES:
            table, nothing = Table(columns, rules), (0,) * len(columns)
            self.assertEqual((open_columns(table, nothing), ridges(table, nothing)), (list(range(len(columns))), []))
            self.assertEqual((open_columns(table, columns), ridges(table, columns)), ([], []))
            for column in range(len(columns)):
                self.assertEqual((held_by(table, nothing, column), held_by(table, columns, column)), ([], []))

    def test_a_column_at_its_bottom_is_not_held(self):
        # Column 1 is whole: though it is as deep as it may be beside the others, they do not hold it.
        table = Table((2, 1, 2), ((1, 1), (1, 1)))
        self.assertEqual((held_by(table, (0, 1, 0), 1), ridges(table, (0, 1, 0))), ([], []))
        self.assertEqual(open_columns(table, (0, 1, 0)), [0, 2])

    def test_a_long_pull(self):
        table = Table((2, 2, 2, 2, 2), ((1, 1),) * 4)
        self.assertEqual(deepened(table, (1, 0, 0, 0, 0), 0), (2, 1, 0, 0, 0))
        self.assertEqual(deepened(Table((3, 3, 3), ((1, 1), (1, 1))), (2, 1, 0), 0), (3, 2, 1))
        self.assertEqual(deepened(Table((3, 3, 3), ((1, 2), (1, 1))), (2, 1, 0), 2), (2, 1, 1))

    def test_errors_stand_in_order(self):
        for profile in (None, [0, 0, 0], (2, 0, 0), (0, 0), (0, 0, True), (0, 0, 2), (3, 3, 1)):
            for function, rest in ((held_by, (None,)), (open_columns, ()), (ridges, ()), (deepened, (None,))):
                self.assertRaises(errors.BadProfile, function, TABLE, profile, *rest)
                self.assertRaises(errors.BadTable, function, TABLE.columns, profile, *rest)
        for column in (-1, 3, True, None, "0"):
            self.assertRaises(errors.BadColumn, held_by, TABLE, (2, 3, 1), column)
            self.assertRaises(errors.BadColumn, deepened, TABLE, (2, 3, 1), column)
        self.assertRaises(errors.AtBottom, deepened, TABLE, (2, 3, 1), 0)


class FlatterTest(unittest.TestCase):
    def test_flattest(self):
        dice = Random(29)
        for columns, rules in plain.TABLES:
            for many in (0, 1, 2, 4, 20):
                rows = [some_depths(dice, columns) for _ in range(many)]
                table = flattest(Table(columns, rules), dice.choice((list, tuple))(rows))
                with self.subTest(columns=columns, rows=rows):
                    self.assertIsInstance(table, Table)
                    self.assertEqual(table.columns, columns)
                    for place, rule in enumerate(table.rules):
                        parts = [row[place:place + 2] for row in rows + [columns]]
                        fitting = [(first, second) for first in range(1, 10) for second in range(1, 10)
                                   if all(plain.keeps([(first, second)], part) for part in parts)]
                        self.assertEqual(rule, leasts(fitting))
                        self.assertIn(rule, fitting)

    def test_flattest_of_no_rows_and_of_all_profiles(self):
        for columns, rules in plain.TABLES:
            table = Table(columns, rules)
            self.assertTrue(is_flatter(flattest(table, ()), table))
            self.assertEqual(flattest(table, []).rules,
                             tuple((max(1, one - other), max(1, other - one))
                                   for one, other in zip(columns, columns[1:])))
            rows = plain.profiles(columns, rules)
            if len(rows) <= 20:
                self.assertEqual(plain.profiles(columns, flattest(table, rows).rules), rows)

    def test_greatest_rules(self):
        self.assertEqual(flattest(Table((9, 1), ((8, 1),)), [(9, 0)]).rules, ((9, 1),))
        self.assertEqual(flattest(Table((5, 5), ((1, 1),)), [(5, 0), (0, 4)]).rules, ((5, 4),))
        self.assertEqual(flattest(Table((3,), ()), [(1,), (3,)]), Table((3,), ()))

    def test_rows_of_wrong_kinds(self):
        for rows, index in ((None, None), (((0, 0, 0),) * 21, None), ([(0, 0, 0)] * 21, None), ({(0, 0, 0): 1}, None),
                            ("", None), (0, None), (True, None), ([None], 0), ([(0, 0, 0), [0, 0, 0]], 1),
                            (((0, 0, 0), (0, 0)), 1), (((3, 0, 0),), 0), ([(0, 0, 0), (0, 0, 0), (0, -1, 0)], 2),
                            ([(0, 0, True)], 0), (((0, 0, 0), (0, "0", 0)), 1), ((0, 0, 0), 0), ([(0, 0, 0, 0)], 0),
                            ([(0, 0, 0)] * 19 + [(0, 0, 2)], 19)):
            with self.subTest(str(rows)[:60]):
                with self.assertRaises(errors.BadProfiles) as caught:
                    flattest(TABLE, rows)
                self.assertEqual(vars(caught.exception), {"index": index})
                self.assertRaises(errors.BadTable, flattest, None, rows)
        self.assertEqual(flattest(TABLE, [(0, 0, 0)] * 20), flattest(TABLE, ((0, 0, 0),) * 20))

    def test_is_flatter(self):
        both = list(itertools.product(((1, 1), (1, 2), (2, 1), (2, 2)), repeat=2))
        tables = plain.TABLES + [((2, 3, 1), rules) for rules in both if plain.keeps(rules, (2, 3, 1))]
        seen = {True: 0, False: 0}
        for one, other in itertools.product(tables, repeat=2):
            answer = set(plain.profiles(*one)) <= set(plain.profiles(*other))
            seen[answer] += 1
            self.assertIs(is_flatter(Table(*one), Table(*other)), answer)
        self.assertTrue(min(seen.values()) > 50, seen)

    def test_is_flatter_with_other_columns(self):
        self.assertIs(is_flatter(Table((1,), ()), Table((2,), ())), True)
        self.assertIs(is_flatter(Table((2,), ()), Table((1,), ())), False)
        self.assertIs(is_flatter(Table((1, 1), ((1, 1),)), Table((2, 2), ((1, 1),))), True)
        self.assertIs(is_flatter(Table((1,), ()), Table((1, 1), ((1, 1),))), False)
        # Steeper rules that no profile needs.
        self.assertIs(is_flatter(Table((1, 1), ((9, 9),)), Table((1, 1), ((1, 1),))), True)
        for one, other in ((None, TABLE), (TABLE, None), (None, None), (TABLE, (2, 3, 1))):
            self.assertRaises(errors.BadTable, is_flatter, one, other)


class SeenTest(unittest.TestCase):
    def test_between(self):
        dice, nones = Random(30), 0
        for columns, rules in plain.TABLES:
            table, every = Table(columns, rules), plain.profiles(columns, rules)
            for _ in range(12):
                seen = tuple(depth if dice.randint(0, 1) else None for depth in some_depths(dice, columns))
                found = [row for row in every if all(told in (None, depth) for told, depth in zip(seen, row))]
                told = tuple(zip(leasts(found), greatests(found))) if found else None
                nones += told is None
                with self.subTest(columns=columns, rules=rules, seen=seen):
                    self.assertEqual(between(table, seen), told)
        self.assertTrue(nones > 20)

    def test_nothing_and_all_seen(self):
        for columns, rules in plain.TABLES:
            table = Table(columns, rules)
            self.assertEqual(between(table, (None,) * len(columns)), tuple((0, most) for most in columns))
            self.assertEqual(between(table, columns), tuple((most, most) for most in columns))
            self.assertEqual(between(table, (0,) * len(columns)), ((0, 0),) * len(columns))

    def test_errors(self):
        for seen in (None, [None, None, None], (None, None), (None,) * 4, (3, None, None), (None, -1, None),
                     (None, True, None), (False, None, None), ("0", None, None), ((0,), None, None), 0, ""):
            self.assertRaises(errors.BadLimits, between, TABLE, seen)
            self.assertRaises(errors.BadTable, between, 0, seen)


class BestTest(unittest.TestCase):
    def some_wanted(self, dice, columns):
        width = dice.choice((1, 2, 50))
        return tuple(plain.some_row(dice, most, -width, width) for most in columns)

    def test_by_all_profiles(self):
        dice = Random(31)
        for columns, rules in plain.TABLES:
            table, every = Table(columns, rules), plain.profiles(columns, rules)
            for _ in range(6):
                worths = self.some_wanted(dice, columns)
                found = [(sum(sum(worths[column][:depth]) for column, depth in enumerate(row)), row) for row in every]
                most = max(found)[0]
                best = [row for worth, row in found if worth == most]
                self.assertEqual(best_profile(table, worths), (most, leasts(best), greatests(best)))

    def test_best_pits_of_the_ground(self):
        dice = Random(311)
        for columns, rules in plain.TABLES:
            table, worths = Table(columns, rules), self.some_wanted(dice, columns)
            told = tuple(worths[column][depth - 1] for depth, column in plain.cells(columns))
            ground = ground_of(table)
            self.assertEqual(best_profile(table, worths),
                             (best_worth(ground, told), as_profile(table, least_best(ground, told)),
                              as_profile(table, greatest_best(ground, told))))

    def test_nothing_and_all(self):
        for columns, rules in plain.TABLES:
            table, nothing, many = Table(columns, rules), (0,) * len(columns), sum(columns)
            for worth, told in ((50, (50 * many, columns, columns)), (-50, (0, nothing, nothing)),
                                (0, (0, nothing, columns))):
                self.assertEqual(best_profile(table, tuple((worth,) * most for most in columns)), told)

    def test_errors(self):
        good = ((0, 0), (0, 0, 0), (0,))
        for worths, index in ((None, None), (list(good), None), (good[:2], None), (good + ((0,),), None), ((), None),
                              (0, None),
                              ((None,) + good[1:], 0), (((0,),) + good[1:], 0), (((0, 0, 0),) + good[1:], 0),
                              (((0, 51),) + good[1:], 0), ((good[0], (0, -51, 0), good[2]), 1),
                              (good[:2] + ((True,),), 2),
                              (good[:2] + ([0],), 2), ((good[0], (0, None, 0), None), 1), (good[:2] + ("0",), 2),
                              (good[:2] + (0,), 2)):
            with self.subTest(str(worths)[:60]):
                with self.assertRaises(errors.BadWanted) as caught:
                    best_profile(TABLE, worths)
                self.assertEqual(vars(caught.exception), {"index": index})
                self.assertRaises(errors.BadTable, best_profile, True, worths)


if __name__ == "__main__":
    unittest.main()
