"""Points 3 and 5 to 9: scales."""

import itertools
import random
import unittest

from claimclasses.scales import Scale
from tests.helpers import LARGE, NO_INTEGERS, NO_LISTS, raised, random_row, random_scale, random_scales


def ladder():
    return Scale([100, 140, 200], [[0, 1, 2], [0, 2, 2], [1, 2, 2]])


def lonely():
    return Scale([0], [[0]])


def greatest():
    """A scale with 12 classes and 5 columns, in which column 4 of class 0 alone leads to class 11."""
    return Scale([1000000 - at for at in range(12)], [[at, 0, 1, 2, 11 - at] for at in range(12)])


def told_class(premiums, table, at, claims):
    """Point 6, said once more without the program."""
    last = len(table[at]) - 1
    return table[at][last] if claims >= last else table[at][claims]


class ConstructorTest(unittest.TestCase):

    def test_least_and_greatest_scales(self):
        self.assertEqual((lonely().premiums(), lonely().table(), len(lonely()), lonely().columns), ([0], [[0]], 1, 1))
        scale = greatest()
        self.assertEqual((len(scale), scale.columns), (12, 5))
        self.assertEqual(scale.premiums()[0], 1000000)
        for classes, columns in itertools.product(range(1, 13), range(1, 6)):
            scale = Scale([0] * classes, [[classes - 1] * columns for _ in range(classes)])
            self.assertEqual((len(scale), scale.columns), (classes, columns))

    def test_premiums_that_are_no_list(self):
        for premiums in NO_LISTS:
            self.assertEqual(raised(Scale, premiums, [[0], [0]]), ("BadPremiums",), premiums)

    def test_numbers_of_premiums(self):
        self.assertEqual(raised(Scale, [], []), ("BadPremiums",))
        self.assertEqual(raised(Scale, [1] * 13, [[0] for _ in range(13)]), ("BadPremiums",))

    def test_bounds_of_premiums(self):
        self.assertEqual(Scale([0, 1000000], [[0], [0]]).premiums(), [0, 1000000])
        for premium in (-1, 1000001, LARGE, -LARGE, *NO_INTEGERS):
            self.assertEqual(raised(Scale, [premium, 1], [[0], [0]]), ("BadPremiums",), premium)
            self.assertEqual(raised(Scale, [1, premium], [[0], [0]]), ("BadPremiums",), premium)

    def test_tables_that_are_no_list_of_lists(self):
        for table in NO_LISTS:
            self.assertEqual(raised(Scale, [1, 2], table), ("BadTable",), table)
            self.assertEqual(raised(Scale, [1, 2], [table, [0, 0]]), ("BadTable",), table)
            self.assertEqual(raised(Scale, [1, 2], [[0, 0], table]), ("BadTable",), table)

    def test_numbers_of_rows(self):
        for table in ([], [[0]], [[0], [0], [0]]):
            self.assertEqual(raised(Scale, [1, 2], table), ("BadTable",), table)

    def test_numbers_of_columns(self):
        for table in ([[], []], [[0] * 6, [0] * 6], [[0], [0, 0]], [[0, 0], [0]], [[0], []], [[0] * 5, [0] * 6]):
            self.assertEqual(raised(Scale, [1, 2], table), ("BadTable",), table)

    def test_bounds_of_classes_in_the_table(self):
        for at in (-1, 2, LARGE, -LARGE, *NO_INTEGERS):
            for table in ([[at, 0], [0, 0]], [[0, at], [0, 0]], [[0, 0], [at, 0]], [[0, 0], [0, at]]):
                self.assertEqual(raised(Scale, [1, 2], table), ("BadTable",), table)

    def test_bad_premiums_come_before_a_bad_table(self):
        for premiums in ([], [-1], [True], None, (1,)):
            for table in ([], [[1]], [[True]], None, ((0,),)):
                self.assertEqual(raised(Scale, premiums, table), ("BadPremiums",))

    def test_arguments_are_copied(self):
        premiums = [100, 140]
        leads = [0, 1]
        table = [leads, leads]
        scale = Scale(premiums, table)
        self.assertEqual((premiums, table, leads), ([100, 140], [[0, 1], [0, 1]], [0, 1]))
        premiums[0] = 7
        premiums.append(8)
        leads[1] = 0
        leads.append(5)
        table.pop()
        self.assertEqual((scale.premiums(), scale.table()), ([100, 140], [[0, 1], [0, 1]]))
        self.assertEqual((scale(0, 1), scale.columns, len(scale)), (1, 2, 2))

    def test_returned_lists_are_new(self):
        scale = Scale([100, 140], [[0, 1], [0, 1]])
        scale.premiums()[0] = 7
        scale.premiums().clear()
        table = scale.table()
        self.assertIsNot(table[0], table[1])
        table[0][1] = 0
        table[1].clear()
        table.pop()
        self.assertEqual((scale.premiums(), scale.table()), ([100, 140], [[0, 1], [0, 1]]))
        self.assertIsNot(scale.premiums(), scale.premiums())
        self.assertIsNot(scale.table(), scale.table())


class ClassesTest(unittest.TestCase):

    def test_premium(self):
        self.assertEqual([ladder().premium(at) for at in range(3)], [100, 140, 200])
        self.assertEqual(greatest().premium(11), 999989)

    def test_contained_classes(self):
        self.assertEqual([at in ladder() for at in (-1, 0, 1, 2, 3, LARGE, -LARGE)],
                         [False, True, True, True, False, False, False])
        self.assertIs(0 in lonely(), True)
        self.assertIs(1 in lonely(), False)

    def test_each_method_refuses_what_is_no_class(self):
        scale = ladder()
        for at in (-1, 3, 12, LARGE, -LARGE, *NO_INTEGERS):
            no_class = ("NoClass", at)
            self.assertEqual(raised(scale, at, 0), no_class)
            self.assertEqual(raised(scale.premium, at), no_class)
            self.assertEqual(raised(scale.classes, at, [0]), no_class)
            self.assertEqual(raised(scale.bills, at, [0]), no_class)
            self.assertEqual(raised(scale.paid, at, []), no_class)
            self.assertEqual(raised(scale.reached, at), no_class)
            self.assertEqual(raised(scale.way, at, 0), no_class)
            self.assertEqual(raised(scale.way, 0, at), no_class)

    def test_the_value_itself_is_told(self):
        self.assertIs(raised(ladder(), True, 0)[1], True)
        self.assertIs(raised(ladder(), 0, False)[1], False)
        self.assertIs(raised(ladder().bills, 0, [0, True])[1], True)


class CallTest(unittest.TestCase):

    def test_each_column_and_claims_beyond_the_last_one(self):
        for scale in random_scales(5, 60) + [lonely(), greatest()]:
            premiums, table = scale.premiums(), scale.table()
            for at in range(len(scale)):
                for claims in (0, 1, 2, 3, 4, 5, 6, 100, LARGE):
                    self.assertEqual(scale(at, claims), told_class(premiums, table, at, claims))

    def test_the_last_column_is_not_an_earlier_one(self):
        self.assertEqual([greatest()(0, claims) for claims in (0, 1, 2, 3, 4, 5, LARGE)], [0, 0, 1, 2, 11, 11, 11])

    def test_bad_claims(self):
        for claims in (-1, -LARGE, *NO_INTEGERS):
            self.assertEqual(raised(ladder(), 1, claims), ("BadClaims", claims))

    def test_no_class_comes_before_bad_claims(self):
        self.assertEqual(raised(ladder(), 3, -1), ("NoClass", 3))
        self.assertEqual(raised(ladder(), None, None), ("NoClass", None))


class RowsTest(unittest.TestCase):

    def test_empty_row(self):
        for at in range(3):
            self.assertEqual(ladder().classes(at, []), [at])
            self.assertEqual(ladder().bills(at, []), [])
            self.assertEqual(ladder().paid(at, []), 0)

    def test_rows_year_by_year(self):
        source = random.Random(7)
        for _ in range(200):
            scale = random_scale(source)
            row = random_row(source)
            start = source.randrange(len(scale))
            kept = list(row)
            premiums, table = scale.premiums(), scale.table()
            classes = [start]
            for claims in row:
                classes.append(told_class(premiums, table, classes[-1], claims))
            bills = [premiums[at] for at in classes[:len(row)]]
            self.assertEqual(scale.classes(start, row), classes)
            self.assertEqual(scale.bills(start, row), bills)
            self.assertEqual(scale.paid(start, row), sum(bills))
            self.assertEqual(row, kept)

    def test_claims_of_the_last_year_show_in_no_premium(self):
        scale = ladder()
        self.assertEqual([scale.paid(0, [2, claims]) for claims in (0, 1, 5)], [300, 300, 300])
        self.assertEqual([scale.classes(0, [2, claims])[-1] for claims in (0, 1, 5)], [1, 2, 2])

    def test_long_rows(self):
        row = [0, 2, 1, LARGE] * 5000
        self.assertEqual(ladder().classes(0, row)[-3:], [2, 2, 2])
        self.assertEqual(len(ladder().bills(2, row)), 20000)
        self.assertEqual(greatest().paid(0, [0] * 20000), 20000000000)

    def test_first_bad_item_of_a_row(self):
        scale = ladder()
        for method in (scale.classes, scale.bills, scale.paid):
            for claims in (-1, -LARGE, *NO_INTEGERS):
                told = ("BadClaims", claims)
                self.assertEqual(raised(method, 0, [claims]), told)
                self.assertEqual(raised(method, 0, [0, 5, claims]), told)
                self.assertEqual(raised(method, 0, [1, claims, -2, None]), told)

    def test_no_class_comes_before_bad_claims(self):
        scale = ladder()
        for method in (scale.classes, scale.bills, scale.paid):
            self.assertEqual(raised(method, 3, [-1]), ("NoClass", 3))
            self.assertEqual(raised(method, True, [True]), ("NoClass", True))

    def test_returned_lists_are_new(self):
        scale = ladder()
        row = [1, 0]
        for method in (scale.classes, scale.bills):
            first = method(0, row)
            kept = list(first)
            first.append(9)
            row_before = list(row)
            self.assertEqual(method(0, row), kept)
            self.assertEqual(row, row_before)
        empty = scale.bills(0, [])
        empty.append(1)
        self.assertEqual(scale.bills(0, []), [])


def rows_by_length(columns, longest):
    for length in range(longest + 1):
        yield from itertools.product(range(columns), repeat=length)


class ReachedTest(unittest.TestCase):

    def test_reached_and_ways_against_all_rows(self):
        source = random.Random(11)
        for _ in range(60):
            scale = random_scale(source, classes=source.randint(1, 5), columns=source.randint(1, 3))
            start = source.randrange(len(scale))
            shortest = {}
            # A shortest row comes to no class twice, so it has fewer years than there are classes.
            for row in rows_by_length(scale.columns, len(scale) - 1):
                shortest.setdefault(scale.classes(start, list(row))[-1], len(row))
            self.assertEqual(scale.reached(start), sorted(shortest))
            for goal in range(len(scale)):
                way = scale.way(start, goal)
                if goal not in shortest:
                    self.assertIsNone(way)
                    continue
                self.assertIsInstance(way, list)
                self.assertEqual(len(way), shortest[goal])
                self.assertEqual(scale.classes(start, way)[-1], goal)

    def test_longest_way(self):
        chain = Scale([0] * 12, [[at, min(at + 1, 11)] for at in range(12)])
        self.assertEqual(chain.way(0, 11), [1] * 11)
        self.assertEqual(chain.reached(0), list(range(12)))
        self.assertEqual(chain.reached(5), list(range(5, 12)))
        self.assertIsNone(chain.way(1, 0))

    def test_reached_is_ascending(self):
        turned = Scale([0] * 12, [[max(at - 1, 0)] for at in range(12)])
        self.assertEqual(turned.reached(11), list(range(12)))
        self.assertEqual(turned.reached(0), [0])

    def test_the_start_is_reached_by_the_empty_row(self):
        away = Scale([0, 0, 0], [[1], [2], [1]])
        self.assertEqual(away.reached(0), [0, 1, 2])
        self.assertEqual([away.way(at, at) for at in range(3)], [[], [], []])
        self.assertIsNone(away.way(2, 0))
        self.assertEqual((lonely().reached(0), lonely().way(0, 0)), ([0], []))

    def test_a_way_by_the_last_of_five_columns(self):
        self.assertEqual(len(greatest().way(0, 11)), 1)
        self.assertGreaterEqual(greatest().way(0, 11)[0], 4)

    def test_start_comes_before_goal(self):
        self.assertEqual(raised(ladder().way, 3, 4), ("NoClass", 3))
        self.assertEqual(raised(ladder().way, 0, 4), ("NoClass", 4))

    def test_returned_lists_are_new(self):
        scale = ladder()
        for method, values in ((scale.reached, (0,)), (scale.way, (0, 2)), (scale.way, (1, 1))):
            first = method(*values)
            kept = list(first)
            first.append(9)
            self.assertEqual(method(*values), kept)


class OperatorsTest(unittest.TestCase):

    def test_added_amounts(self):
        for scale in random_scales(13, 20, dearest=1000):
            premiums, table = scale.premiums(), scale.table()
            for amount in (0, 1, 250, 999000, -min(premiums), 1000000 - max(premiums)):
                other = scale + amount
                self.assertIsInstance(other, Scale)
                self.assertEqual(other.premiums(), [premium + amount for premium in premiums])
                self.assertEqual(other.table(), table)
            self.assertEqual((scale.premiums(), scale.table()), (premiums, table))

    def test_multiplied_premiums(self):
        for scale in random_scales(17, 20, dearest=1000):
            premiums, table = scale.premiums(), scale.table()
            for factor in (0, 1, 2, 1000):
                other = scale * factor
                self.assertIsInstance(other, Scale)
                self.assertEqual(other.premiums(), [premium * factor for premium in premiums])
                self.assertEqual(other.table(), table)
            self.assertEqual((scale.premiums(), scale.table()), (premiums, table))

    def test_premiums_out_of_bounds(self):
        scale = Scale([1, 1000], [[0, 1], [1, 0]])
        for amount in (-2, -1000, 999001, LARGE, -LARGE):
            self.assertEqual(raised(lambda: scale + amount), ("BadPremiums",), amount)
        for factor in (-1, 1001, LARGE, -LARGE):
            self.assertEqual(raised(lambda: scale * factor), ("BadPremiums",), factor)
        self.assertEqual((scale + 999000).premiums(), [999001, 1000000])
        self.assertEqual((scale + -1).premiums(), [0, 999])
        self.assertEqual((scale * 1000).premiums(), [1000, 1000000])
        self.assertEqual((scale.premiums(), scale.table()), ([1, 1000], [[0, 1], [1, 0]]))

    def test_premiums_of_zero_may_be_multiplied_by_any_factor(self):
        for factor in (0, -1, LARGE, -LARGE):
            self.assertEqual((lonely() * factor).premiums(), [0])


class LimitedTest(unittest.TestCase):

    def test_first_columns(self):
        for scale in random_scales(19, 40) + [lonely(), greatest()]:
            premiums, table = scale.premiums(), scale.table()
            for columns in range(1, 6):
                other = scale.limited(columns)
                self.assertIsInstance(other, Scale)
                self.assertEqual(other.premiums(), premiums)
                self.assertEqual(other.table(), [leads[:columns] for leads in table])
                self.assertEqual(other.columns, min(columns, scale.columns))
            self.assertEqual((scale.premiums(), scale.table()), (premiums, table))

    def test_the_last_column_counts_for_more_claims(self):
        self.assertEqual([greatest().limited(3)(5, claims) for claims in (0, 1, 2, 3, 4, LARGE)], [5, 0, 1, 1, 1, 1])

    def test_more_columns_than_a_scale_can_have(self):
        self.assertTrue(greatest().limited(6).same(greatest()))
        self.assertTrue(ladder().limited(7).same(ladder()))


class SameTest(unittest.TestCase):

    def test_equal_scales(self):
        self.assertIs(ladder().same(ladder()), True)
        self.assertIs(lonely().same(lonely()), True)
        scale = greatest()
        self.assertIs(scale.same(scale), True)
        self.assertIs((scale + -3 + 3).same(scale), True)

    def test_different_scales(self):
        others = (
            Scale([100, 140, 201], [[0, 1, 2], [0, 2, 2], [1, 2, 2]]),
            Scale([101, 140, 200], [[0, 1, 2], [0, 2, 2], [1, 2, 2]]),
            Scale([100, 140, 200], [[0, 1, 2], [0, 2, 2], [1, 2, 1]]),
            Scale([100, 140, 200], [[1, 1, 2], [0, 2, 2], [1, 2, 2]]),
            Scale([100, 140, 200], [[0, 1, 2, 2], [0, 2, 2, 2], [1, 2, 2, 2]]),
            ladder().limited(2),
            lonely(),
            greatest(),
        )
        for other in others:
            self.assertIs(ladder().same(other), False)
            self.assertIs(other.same(ladder()), False)

    def test_premiums_and_tables_both_count(self):
        self.assertIs(Scale([1, 2], [[0], [1]]).same(Scale([1, 2], [[0], [0]])), False)
        self.assertIs(Scale([1, 2], [[0], [1]]).same(Scale([2, 1], [[0], [1]])), False)


if __name__ == "__main__":
    unittest.main()
