"""Points 3, 4 and 39 to 43: orders of claims."""

import itertools
import random
import time
import unittest

from claimclasses.makers import by_steps
from claimclasses.orders import (alike_behind, best_spread, cheapest_order, dearest_order, never_dearer, places_cost)
from claimclasses.pairs import excess
from claimclasses.scales import Scale
from tests.helpers import (DEAREST, HARSH, LARGE, LONELY, MILD, NO_INTEGERS, NO_LISTS, amount_told, answered, graph,
                           is_row, led, long_ladders, most_amount, raised, random_scale, random_scales, steps_to,
                           walked)

# Two claims lead one class further than one claim, and only they do so.
STEEP = Scale([0, 10, 30], [[0, 1, 2], [0, 2, 2], [1, 2, 2]])
ROWS = [list(row) for years in (1, 2, 3) for row in itertools.product(range(3), repeat=years)]


def behind(scale, at, row):
    return walked(scale, at, scale, at, row)[-1][0]


def costs(scale, at, row):
    """What the years of a row cost, summed up year by year."""
    return sum(scale.premiums()[place] for place, _ in walked(scale, at, scale, at, row)[:-1])


def small_scales(seed, many):
    """Small scales, most of them with claims that lead up and premiums that rise."""
    source = random.Random(seed)
    scales = []
    for _ in range(many):
        classes, columns = source.choice([1, 2, 3, 3, 4, 4]), source.choice([1, 2, 2, 3, 3, 4])
        scale = random_scale(source, classes, columns, source.choice([0, 2, 9, 9]))
        if source.random() < 0.6:
            scale = by_steps(sorted(scale.premiums()), source.randint(0, 2),
                             sorted(source.randint(0, 3) for _ in range(columns)))
        scales.append(scale)
    return scales


def first_dearer(scale, row, other):
    """Point 41 by a search of its own: the least class and its two classes behind the rows, or None."""
    for at in range(len(scale)):
        then, since = behind(scale, at, row), behind(scale, at, other)
        amount = most_amount(scale, then, scale, since)
        if amount is None or costs(scale, at, row) - costs(scale, at, other) + amount > 0:
            return at, then, since, amount
    return None


class OrdersTest(unittest.TestCase):

    def check(self, scale, start, years, after):
        """Both orders, looked at by a walk year by year; returns the two sums."""
        sums = []
        for deed in (cheapest_order, dearest_order):
            told = answered(deed, scale, start, years, after)
            self.assertEqual((type(told), len(told)), (tuple, 2))
            amount, row = told
            self.assertTrue(type(amount) is int and is_row(row))
            self.assertEqual(sorted(row), sorted(years))
            self.assertEqual(costs(scale, start, row + [0] * after), amount)
            if after == 0:
                self.assertEqual(deed(scale, start, years)[0], amount)
            sums.append(amount)
        return tuple(sums)

    def search(self, scale, start, years, after):
        found = [costs(scale, start, [*row, *[0] * after]) for row in {*itertools.permutations(years)}]
        return min(found), max(found)

    def test_all_orders_of_a_few_years(self):
        source = random.Random(391)
        different = 0
        for scale in [*small_scales(392, 120), *random_scales(393, 60)]:
            start = source.randrange(len(scale))
            years = [source.choice([0, 0, 1, 1, 2, 3, 4, 7, LARGE]) for _ in range(source.randint(0, 5))]
            after = source.choice([0, 0, 1, 2, 5])
            found = self.check(scale, start, years, after)
            self.assertEqual(found, self.search(scale, start, years, after))
            different += found[0] < found[1]
        self.assertGreater(different, 30)

    def test_eight_years(self):
        source = random.Random(394)
        for scale in [random_scale(source, 12, 5), *long_ladders(), MILD]:
            years = [source.choice([0, 1, 2, LARGE]) for _ in range(8)]
            self.assertEqual(self.check(scale, 1, years, 3), self.search(scale, 1, years, 3))

    def test_no_years(self):
        self.assertEqual(answered(cheapest_order, MILD, 2, []), (0, []))
        self.assertEqual(answered(dearest_order, MILD, 2, []), (0, []))
        self.assertEqual(answered(cheapest_order, MILD, 2, [], 1000), (160 + 130 + 998 * 100, []))
        self.assertEqual(answered(dearest_order, MILD, 2, [], 1000), (160 + 130 + 998 * 100, []))

    def test_edges(self):
        self.assertEqual(answered(cheapest_order, MILD, 0, [1, 0, 1]), (330, [0, 1, 1]))
        self.assertEqual(answered(dearest_order, MILD, 0, [1, 0, 1], 2)[0], 620)
        self.assertEqual(self.check(LONELY, 0, [5, 0, LARGE], 1000), (0, 0))
        self.assertEqual(self.check(DEAREST, 0, [5, 0, LARGE], 997), (1000000000, 1000000000))
        self.assertEqual(self.check(HARSH, 0, [0, 1], 0), (180, 290))
        self.assertEqual(self.check(HARSH, 0, [0, 1], 1), (380, 380))

    def test_the_numbers_stand_in_the_row_as_they_were_passed(self):
        # All of these count in the last column, and still each of them is in the row.
        for deed in (cheapest_order, dearest_order):
            self.assertEqual(sorted(answered(deed, MILD, 0, [7, 1, LARGE, 7, 2, 3])[1]), [1, 2, 3, 7, 7, LARGE])
            self.assertEqual(sorted(deed(MILD, 0, [3, 3, 0, 3, 0])[1]), [0, 0, 3, 3, 3])

    def test_a_few_more_years_than_told(self):
        years = [0, 1, 2, 3, 4, 5, 6, 7, 8, 9]
        for scale in (STEEP, MILD):
            least, greatest = self.check(scale, 1, years, 0)
            self.assertTrue(least <= costs(scale, 1, years) <= greatest)

    def test_errors(self):
        for deed in (cheapest_order, dearest_order):
            for bad in (-1, 3, LARGE, *NO_INTEGERS):
                self.assertEqual(raised(deed, MILD, bad, [1, -1], -1), ("NoClass", bad))
                self.assertEqual(raised(deed, MILD, bad, [1]), ("NoClass", bad))
            for bad in (-1, -LARGE, *NO_INTEGERS):
                self.assertEqual(raised(deed, MILD, 0, [1, bad, -7], -1), ("BadClaims", bad))
                self.assertEqual(raised(deed, MILD, 0, [bad, True]), ("BadClaims", bad))
            for bad in (-1, 1001, LARGE, -LARGE, *NO_INTEGERS):
                self.assertEqual(raised(deed, MILD, 0, [1, 0], bad), ("BadYears", bad))
                self.assertEqual(raised(deed, MILD, 0, [], bad), ("BadYears", bad))


class PlacesCostTest(unittest.TestCase):

    def test_random_scales(self):
        source = random.Random(401)
        for scale in [*small_scales(402, 60), *random_scales(403, 40)]:
            start, claims, years = source.randrange(len(scale)), source.choice([0, 1, 2, 5, LARGE]), source.randint(1, 9)
            rows = [[claims if year == place else 0 for year in range(years)] for place in range(years)]
            self.assertEqual(answered(places_cost, scale, start, claims, years),
                             [costs(scale, start, row) for row in rows])

    def test_edges(self):
        self.assertEqual(answered(places_cost, MILD, 0, 1, 3), [330, 330, 300])
        self.assertEqual(answered(places_cost, MILD, 2, 4, 1), [160])
        self.assertEqual(answered(places_cost, MILD, 0, 0, 4), [400] * 4)
        self.assertEqual(answered(places_cost, DEAREST, 0, LARGE, 100), [100000000] * 100)
        self.assertEqual(answered(places_cost, HARSH, 1, 1, 100), [200 + 98 * 90 + 200] * 99 + [200 + 99 * 90])

    def test_errors(self):
        for bad in (-1, 3, LARGE, *NO_INTEGERS):
            self.assertEqual(raised(places_cost, MILD, bad, -1, 0), ("NoClass", bad))
        for bad in (-1, -LARGE, *NO_INTEGERS):
            self.assertEqual(raised(places_cost, MILD, 0, bad, 0), ("BadClaims", bad))
        for bad in (0, -1, 101, LARGE, -LARGE, *NO_INTEGERS):
            self.assertEqual(raised(places_cost, MILD, 0, 1, bad), ("BadYears", bad))


class RefusedRows:
    """Tests of functions that compare two rows; `deed` is the function."""

    deed = None

    def test_rows_that_are_no_rows(self):
        for bad in NO_LISTS:
            self.assertEqual(raised(self.deed, MILD, bad, [0, 0]), ("BadRows",), bad)
            self.assertEqual(raised(self.deed, MILD, [0, 0], bad), ("BadRows",), bad)
            self.assertEqual(raised(self.deed, LONELY, bad, bad), ("BadRows",), bad)

    def test_rows_of_other_lengths(self):
        for row, other in (([], []), ([0], []), ([], [0]), ([0], [0, 0]), ([1, 2, 3], [1, 2]), ([-1], [True, 0])):
            self.assertEqual(raised(self.deed, MILD, row, other), ("BadRows",))

    def test_claims(self):
        for bad in (-1, -LARGE, *NO_INTEGERS):
            self.assertEqual(raised(self.deed, MILD, [0, bad, -9], [-8, 0, 0]), ("BadClaims", bad))
            self.assertEqual(raised(self.deed, MILD, [0, LARGE, 0], [1, bad, None]), ("BadClaims", bad))
            self.assertEqual(raised(self.deed, LONELY, [bad], [bad]), ("BadClaims", bad))


class NeverDearerTest(RefusedRows, unittest.TestCase):

    def deed(self, scale, row, other):
        return never_dearer(scale, row, other)

    def check(self, scale, row, other):
        """What is told, looked at by a search of its own; returns the class, or None."""
        told = answered(never_dearer, scale, row, other)
        found = first_dearer(scale, row, other)
        if found is None:
            self.assertIsNone(told)
            return None
        at, then, since, amount = found
        self.assertEqual((type(told), len(told), told[0]), (tuple, 2, at))
        self.assertEqual(amount_told(told[1], scale, then, scale, since), amount)
        return at

    def test_small_scales(self):
        source = random.Random(411)
        found = []
        for scale in small_scales(412, 250):
            row = source.choice(ROWS)
            other = source.choice([row[::-1], [source.choice([0, 1, 2, 3, LARGE]) for _ in row]])
            found.append(self.check(scale, row, other))
        self.assertGreater(found.count(None), 50)
        self.assertGreater(found.count(0), 30)
        self.assertGreater(len([at for at in found if at]), 10)

    def test_the_example(self):
        self.assertEqual(self.check(MILD, [0, 1], [1, 0]), 0)

    def test_equal_rows(self):
        for scale in (LONELY, MILD, HARSH, STEEP, *random_scales(413, 10)):
            self.assertIsNone(answered(never_dearer, scale, [1, 0, 2], [1, 0, 2]))
        self.assertIsNone(answered(never_dearer, MILD, [7, 0, 1], [1, 0, LARGE]))

    def test_one_row_for_both(self):
        row = [0, 1]
        self.assertIsNone(never_dearer(MILD, row, row))

    def test_the_years_of_the_rows_count(self):
        # Behind both rows the policy is in class 0, so the years of the rows alone decide.
        scale = Scale([5, 9], [[0, 1], [0, 0]])
        self.assertIsNone(self.check(scale, [0, 0], [1, 0]))
        self.assertEqual(answered(never_dearer, scale, [1, 0], [0, 0]), (0, ("most", 0, [])))

    def test_what_was_saved_pays_for_later_years(self):
        # From class 0 the claim leads to a year that costs 3 less, and then to one that costs 2 or 4 more.
        for later, dearer in ((2, False), (3, False), (4, True)):
            scale = Scale([9, 6, 9 + later, 9], [[3, 1], [2, 2], [3, 3], [3, 3]])
            self.assertEqual(self.check(scale, [1, 0], [0, 0]), 0 if dearer else None)

    def test_a_gain_without_end_behind_a_great_loss(self):
        # The policy with the claim saves 1000000 first, and pays 1 more each year from then on.
        scale = Scale([0, 0, 1, 1000000, 0], [[3, 1], [2, 2], [2, 2], [4, 4], [4, 4]])
        self.assertEqual(self.check(scale, [1, 0], [0, 0]), 0)
        self.assertEqual(answered(never_dearer, scale, [1, 0], [0, 0])[1][0], "endless")

    def test_the_least_class_is_told(self):
        # Only from the last class the first row leads elsewhere.
        scale = Scale([0] * 11 + [1], [[0, 0]] * 11 + [[0, 11]])
        self.assertEqual(self.check(scale, [1], [0]), 11)
        self.assertIsNone(self.check(scale, [0], [1]))

    def test_long_rows(self):
        self.assertIsNone(answered(never_dearer, MILD, [0] * 1000, [0] * 999 + [1]))
        self.assertEqual(answered(never_dearer, MILD, [0] * 999 + [1], [0] * 1000)[0], 0)


class BestSpreadTest(unittest.TestCase):

    def search(self, scale, first, second):
        rows = [[first, second], [second, first], [first + second, 0], [0, first + second]]
        return [i for i in range(4) if all(first_dearer(scale, rows[i], row) is None for row in rows)]

    def test_small_scales(self):
        source = random.Random(421)
        found = []
        for scale in small_scales(422, 200):
            first, second = source.randint(0, 3), source.choice([0, 1, 2, LARGE])
            told = answered(best_spread, scale, first, second)
            self.assertEqual(told, self.search(scale, first, second))
            found.append(tuple(told))
        # No row, each of the four, and several of them were told.
        self.assertIn((), found)
        self.assertGreater(len({*found}), 5)
        self.assertEqual({number for told in found for number in told}, {0, 1, 2, 3})

    def test_edges(self):
        self.assertEqual(answered(best_spread, MILD, 1, 1), [])
        self.assertEqual(answered(best_spread, HARSH, 1, 1), [3])
        self.assertEqual(answered(best_spread, MILD, 0, 0), [0, 1, 2, 3])
        self.assertEqual(answered(best_spread, LONELY, 3, LARGE), [0, 1, 2, 3])
        # The year without a claim comes last, or first.
        later = Scale([0, 1], [[1, 0], [1, 0]])
        self.assertEqual(answered(best_spread, later, 0, 1), self.search(later, 0, 1))
        self.assertEqual(answered(best_spread, later, 1, 0), self.search(later, 1, 0))

    def test_the_sum_of_both_counts_in_its_column(self):
        # One claim each is free, two claims in one year are not.
        scale = Scale([0, 5], [[0, 0, 1], [0, 0, 1]])
        self.assertEqual(answered(best_spread, scale, 1, 1), [0, 1])
        # All claims in one year cost no more than one.
        scale = Scale([0, 5], [[0, 1, 0], [0, 1, 0]])
        self.assertEqual(answered(best_spread, scale, 1, 1), [2, 3])

    def test_errors(self):
        for bad in (-1, -LARGE, *NO_INTEGERS):
            self.assertEqual(raised(best_spread, MILD, bad, -2), ("BadClaims", bad))
            self.assertEqual(raised(best_spread, MILD, 0, bad), ("BadClaims", bad))
            self.assertEqual(raised(best_spread, LONELY, bad, bad), ("BadClaims", bad))


class AlikeBehindTest(RefusedRows, unittest.TestCase):

    def deed(self, scale, row, other):
        return alike_behind(scale, row, other)

    def check(self, scale, row, other):
        told = answered(alike_behind, scale, row, other)
        premiums = scale.premiums()
        for at in range(len(scale)):
            first = (behind(scale, at, row), behind(scale, at, other))
            leads = graph(scale, first[0], scale, first[1])
            years = steps_to(leads.get, first, lambda pair: premiums[pair[0]] != premiums[pair[1]])
            if years is not None:
                self.assertEqual((type(told), len(told), told[0]), (tuple, 2, at))
                self.assertTrue(is_row(told[1]))
                self.assertEqual(len(told[1]), years)
                then, since = walked(scale, first[0], scale, first[1], told[1])[-1]
                self.assertNotEqual(premiums[then], premiums[since])
                return at, years
        self.assertIsNone(told)
        return None

    def test_scales(self):
        source = random.Random(431)
        found = []
        for scale in [*small_scales(432, 250), *random_scales(433, 30, 3)]:
            row = source.choice(ROWS)
            other = source.choice([row[::-1], [source.choice([0, 1, 2, 3, LARGE]) for _ in row]])
            found.append(self.check(scale, row, other))
        self.assertGreater(found.count(None), 50)
        self.assertGreater(found.count((0, 0)), 30)
        self.assertGreater(len([told for told in found if told and told[0] > 0]), 10)
        self.assertGreater(len([told for told in found if told and told[1] > 0]), 5)

    def test_edges(self):
        self.assertEqual(answered(alike_behind, MILD, [0, 5], [1, 5]), (0, []))
        self.assertIsNone(answered(alike_behind, MILD, [1, 0, 0], [0, 0, 0]))
        self.assertIsNone(answered(alike_behind, MILD, [1, 9], [LARGE, 1]))
        self.assertIsNone(answered(alike_behind, LONELY, [0], [LARGE]))
        # The years of the rows do not count: they are billed unlike, and the years behind them alike.
        self.assertIsNone(answered(alike_behind, HARSH, [0, 1, 0], [1, 1, 0]))
        self.assertIsNone(self.check(Scale([3, 3, 3], [[1, 2], [2, 0], [0, 1]]), [0, 1], [1, 1]))

    def test_a_year_long_after(self):
        # Behind the claim a policy goes down a chain, at whose end it is billed more.
        scale = Scale([5, 5, 5, 5, 5, 9], [[1, 2], [1, 1], [3, 3], [4, 4], [5, 5], [5, 5]])
        self.assertEqual(self.check(scale, [0], [1]), (0, 3))
        # Only a year with a claim shows it.
        scale = Scale([5, 5, 5, 9], [[1, 2], [1, 1], [1, 3], [1, 1]])
        self.assertEqual(self.check(scale, [1], [0]), (0, 1))
        self.assertGreater(alike_behind(scale, [1], [0])[1][0], 0)

    def test_the_least_class_is_told(self):
        scale = Scale([0] * 11 + [1], [[0, 0]] * 11 + [[0, 11]])
        self.assertEqual(answered(alike_behind, scale, [1], [0]), (11, []))


class LargeScalesTest(unittest.TestCase):

    def test_large_scales_are_answered_soon(self):
        began = time.perf_counter()
        source = random.Random(441)
        for scale in [*long_ladders(), *[random_scale(source, 12, 5) for _ in range(2)]]:
            for deed in (cheapest_order, dearest_order):
                deed(scale, 0, [0, 1, 2, 3, 4, 5, 6, LARGE], 1000)
            places_cost(scale, 0, 1, 100)
            never_dearer(scale, [0, 4, 1] * 100, [1, 4, 0] * 100)
            never_dearer(scale, [0, 4, 1], [0, 4, 1])
            best_spread(scale, 1, 2)
            alike_behind(scale, [0, 4, 1], [1, 4, 0])
        self.assertLess(time.perf_counter() - began, 15)

    def test_what_never_dearer_tells_of_larger_scales(self):
        source = random.Random(442)
        for scale in [*long_ladders(), *[random_scale(source, 12, 5) for _ in range(3)]]:
            row, other = [source.choice([0, 1, 4]) for _ in range(3)], [source.choice([0, 1, 4]) for _ in range(3)]
            told = never_dearer(scale, row, other)
            for at in range(len(scale) if told is None else told[0] + 1):
                then, since = behind(scale, at, row), behind(scale, at, other)
                amount = amount_told(excess(scale, then, scale, since), scale, then, scale, since)
                fine = amount is not None and costs(scale, at, row) - costs(scale, at, other) + amount <= 0
                self.assertEqual(fine, told is None or at < told[0])
                if not fine:
                    self.assertEqual(amount_told(told[1], scale, then, scale, since), amount)


if __name__ == "__main__":
    unittest.main()
