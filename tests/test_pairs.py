"""Points 3, 4 and 15 to 20: two scales under the same claims."""

import random
import time
import unittest

from claimclasses.pairs import by_years, difference, excess, is_potentials, never_more, pairs, potentials
from claimclasses.scales import Scale
from tests.helpers import (DEAREST, HARSH, LARGE, LONELY, MILD, NO_INTEGERS, RefusedClasses, added, all_rows,
                           amount_told, answered, gained, graph, layers, long_ladders, most_amount, raised, random_row,
                           random_scale, random_scales, rings_of_unlike_lengths, small_cases, spans)

# Class 0 leads to class 1, and that to class 2, where a policy stays.
DOWN = Scale([5, 3, 0], [[1], [2], [2]])


def is_proof(one, start, other, begin, amounts):
    """Point 18, said once more without the program."""
    leads = graph(one, start, other, begin)
    if sorted(amounts) != sorted(leads) or min(amounts.values()) < 0:
        return False
    for pair in leads:
        for to in leads[pair]:
            if amounts[pair] < added(one, other, pair) + amounts[to]:
                return False
    return amounts[(start, begin)] == most_amount(one, start, other, begin)


class PairsTest(unittest.TestCase):

    def test_pairs(self):
        self.assertEqual(answered(pairs, MILD, 0, HARSH, 0), [(0, 0), (1, 0), (1, 1), (2, 1)])
        self.assertEqual(answered(pairs, LONELY, 0, LONELY, 0), [(0, 0)])
        self.assertEqual(answered(pairs, DOWN, 1, LONELY, 0), [(1, 0), (2, 0)])
        self.assertEqual(answered(pairs, MILD, 1, MILD, 1), [(0, 0), (1, 1), (2, 2)])

    def test_the_start_is_among_them_though_nothing_leads_back_to_it(self):
        self.assertEqual(answered(pairs, DOWN, 0, DOWN, 2), [(0, 2), (1, 2), (2, 2)])

    def test_the_last_column_of_the_scale_with_fewer_columns_counts_on(self):
        one = Scale([0, 0], [[0, 1], [0, 0]])
        other = Scale([0, 0, 0], [[0, 1, 2], [0, 1, 2], [0, 1, 2]])
        self.assertEqual(answered(pairs, one, 0, other, 0), [(0, 0), (0, 1), (0, 2), (1, 1), (1, 2)])
        self.assertEqual(answered(pairs, other, 0, one, 0), [(0, 0), (1, 0), (1, 1), (2, 0), (2, 1)])

    def test_pairs_of_small_scales(self):
        for one, start, other, begin in small_cases(151, 150):
            found = answered(pairs, one, start, other, begin)
            self.assertEqual(found, sorted(graph(one, start, other, begin)))
            self.assertTrue(all(isinstance(pair, tuple) for pair in found))


class DifferenceTest(unittest.TestCase):

    def test_differences(self):
        self.assertEqual(answered(difference, MILD, 0, HARSH, 0, [1, 0]), -60)
        self.assertEqual(answered(difference, MILD, 0, HARSH, 0, []), 0)
        self.assertEqual(answered(difference, MILD, 2, HARSH, 0, [0]), 70)
        self.assertEqual(answered(difference, DEAREST, 0, LONELY, 0, [LARGE] * 50), 50000000)
        self.assertEqual(answered(difference, LONELY, 0, DEAREST, 0, [0] * 50), -50000000)

    def test_claims_of_the_last_year_do_not_show(self):
        for claims in (0, 1, LARGE):
            self.assertEqual(answered(difference, MILD, 0, HARSH, 0, [1, claims]), -60)

    def test_claims_beyond_the_last_column(self):
        self.assertEqual(answered(difference, MILD, 0, HARSH, 0, [LARGE, 0, 2, 7]),
                         answered(difference, MILD, 0, HARSH, 0, [1, 0, 1, 1]))

    def test_random_rows(self):
        source = random.Random(152)
        scales = random_scales(153, 60)
        for one in scales:
            other = source.choice([one, source.choice(scales)])
            start, begin = source.randrange(len(one)), source.randrange(len(other))
            row = random_row(source)
            found = answered(difference, one, start, other, begin, row)
            self.assertEqual(found, gained(one, start, other, begin, row))
            self.assertIs(type(found), int)
            self.assertEqual(found, -difference(other, begin, one, start, row))


class ErrorsTest(RefusedClasses, unittest.TestCase):

    calls = ((pairs, ()), (difference, ([0, 1],)), (excess, ()), (never_more, ()), (potentials, ()),
             (is_potentials, ({(0, 0): 0},)), (by_years, (3,)))

    def test_claims_of_a_difference(self):
        for bad in (-1, -LARGE, *NO_INTEGERS):
            self.assertEqual(raised(difference, MILD, 0, HARSH, 0, [1, bad, -7]), ("BadClaims", bad), bad)
            self.assertEqual(raised(difference, MILD, 0, HARSH, 0, [bad]), ("BadClaims", bad), bad)

    def test_classes_are_told_before_claims(self):
        self.assertEqual(raised(difference, MILD, 3, HARSH, 2, [-1]), ("NoClass", 3))
        self.assertEqual(raised(difference, MILD, 0, HARSH, 2, [-1]), ("NoClass", 2))

    def test_years(self):
        for bad in (-1, 1001, LARGE, -LARGE, *NO_INTEGERS):
            self.assertEqual(raised(by_years, MILD, 0, HARSH, 0, bad), ("BadYears", bad), bad)
            self.assertEqual(raised(by_years, LONELY, 0, LONELY, 0, bad), ("BadYears", bad), bad)

    def test_classes_are_told_before_years(self):
        self.assertEqual(raised(by_years, MILD, 3, HARSH, 2, -1), ("NoClass", 3))
        self.assertEqual(raised(by_years, MILD, 0, HARSH, 2, None), ("NoClass", 2))


class ExcessTest(unittest.TestCase):

    def check(self, one, start, other, begin):
        """Looks at what `excess` tells, by walks year by year; returns the amount, or None."""
        return amount_told(answered(excess, one, start, other, begin), one, start, other, begin)

    def test_small_scales_against_a_search_of_their_own(self):
        amounts = []
        for one, start, other, begin in small_cases(161, 400):
            amount = self.check(one, start, other, begin)
            self.assertEqual(amount, most_amount(one, start, other, begin))
            amounts.append(amount)
        # All kinds of answers were among them.
        self.assertGreater(amounts.count(None), 50)
        self.assertGreater(amounts.count(0), 50)
        self.assertGreater(len(amounts) - amounts.count(None) - amounts.count(0), 50)

    def test_no_row_of_a_few_years_is_greater_or_shorter(self):
        for one, start, other, begin in small_cases(162, 120):
            told = excess(one, start, other, begin)
            if told[0] == "most":
                for years in range(5):
                    for row in all_rows(max(one.columns, other.columns), years):
                        found = gained(one, start, other, begin, row)
                        self.assertTrue(found < told[1] or found == told[1] and years >= len(told[2]))

    def test_the_empty_row_counts(self):
        self.assertEqual(answered(excess, LONELY, 0, DEAREST, 0), ("most", 0, []))
        self.assertEqual(answered(excess, HARSH, 0, HARSH + 1, 0), ("most", 0, []))
        self.assertEqual(answered(excess, LONELY, 0, LONELY, 0), ("most", 0, []))

    def test_the_shortest_row_among_those_of_the_same_difference(self):
        # From class 0 nothing more is added, though a policy can wait there for as long as it likes.
        one = Scale([0, 7, 0], [[0, 1], [2, 2], [2, 2]])
        self.assertEqual(self.check(one, 0, LONELY, 0), 7)
        self.assertEqual(len(excess(one, 0, LONELY, 0)[2]), 2)
        self.assertGreater(excess(one, 0, LONELY, 0)[2][0], 0)
        self.assertEqual(self.check(DOWN, 0, LONELY, 0), 8)
        self.assertEqual([len(excess(DOWN, start, LONELY, 0)[2]) for start in range(3)], [2, 1, 0])

    def test_a_row_that_pays_less_first(self):
        one = Scale([0, 0, 10, 4], [[1, 3], [2, 2], [3, 3], [3, 3]])
        other = Scale([4], [[0]])
        self.assertEqual(self.check(one, 0, other, 0), 0)
        self.assertEqual(self.check(one, 1, other, 0), 2)
        self.assertEqual(len(excess(one, 1, other, 0)[2]), 2)

    def test_a_ring_that_adds_nothing_is_no_end(self):
        one = Scale([1, 3], [[1], [0]])
        other = Scale([2], [[0]])
        self.assertEqual(self.check(one, 0, other, 0), 0)
        self.assertEqual(self.check(one, 1, other, 0), 1)
        self.assertEqual(self.check(one + 1, 0, other + 1, 0), 0)
        self.assertIsNone(self.check(Scale([1, 4], [[1], [0]]), 0, other, 0))

    def test_a_ring_that_is_reached_late_and_at_a_loss(self):
        one = Scale([0, 0, 0, 101], [[0, 1], [0, 2], [0, 3], [0, 3]])
        self.assertIsNone(self.check(one, 0, Scale([100], [[0]]), 0))
        self.assertEqual(self.check(one, 0, Scale([101], [[0]]), 0), 0)
        self.assertEqual(self.check(one, 3, Scale([101], [[0]]), 0), 0)

    def test_a_ring_that_cannot_be_reached_does_not_count(self):
        one = Scale([9, 0], [[0], [1]])
        self.assertIsNone(self.check(one, 0, LONELY, 0))
        self.assertEqual(self.check(one, 1, LONELY, 0), 0)

    def test_least_and_greatest_premiums(self):
        self.assertIsNone(self.check(DEAREST, 0, LONELY, 0))
        one = Scale([1000000] * 11 + [0], [[min(at + 1, 11)] for at in range(12)])
        self.assertEqual(self.check(one, 0, LONELY, 0), 11000000)
        self.assertEqual(len(excess(one, 0, LONELY, 0)[2]), 11)

    def test_columns_that_only_one_scale_has(self):
        # Only with three claims do the two scales part.
        one = Scale([5, 8, 5], [[0, 0, 0, 1], [2, 2, 2, 2], [2, 2, 2, 2]])
        told = answered(excess, one, 0, Scale([5], [[0]]), 0)
        self.assertEqual((told[:2], len(told[2])), (("most", 3), 2))
        self.assertGreaterEqual(told[2][0], 3)
        self.assertEqual(answered(excess, Scale([5], [[0]]), 0, one, 0), ("most", 0, []))


class NeverMoreTest(unittest.TestCase):

    def test_small_scales(self):
        found = []
        for one, start, other, begin in small_cases(171, 300):
            found.append(answered(never_more, one, start, other, begin))
            self.assertIs(found[-1], most_amount(one, start, other, begin) == 0)
        self.assertGreater(min(found.count(True), found.count(False)), 50)

    def test_edges(self):
        self.assertIs(answered(never_more, LONELY, 0, DEAREST, 0), True)
        self.assertIs(answered(never_more, DEAREST, 0, LONELY, 0), False)
        self.assertIs(answered(never_more, DEAREST, 0, DEAREST, 0), True)
        self.assertIs(answered(never_more, HARSH, 1, MILD, 2), False)
        # More in one year, but not in all years together.
        self.assertIs(answered(never_more, Scale([1, 3], [[1], [0]]), 0, Scale([2], [[0]]), 0), True)
        self.assertIs(answered(never_more, Scale([1, 3], [[1], [0]]), 1, Scale([2], [[0]]), 0), False)


class PotentialsTest(unittest.TestCase):

    def test_small_scales(self):
        kinds = []
        for one, start, other, begin in small_cases(181, 300):
            amounts = answered(potentials, one, start, other, begin)
            kinds.append(amounts is None)
            if amounts is None:
                self.assertIsNone(most_amount(one, start, other, begin))
            else:
                self.assertTrue(all(type(amount) is int for amount in amounts.values()))
                self.assertTrue(all(type(pair) is tuple for pair in amounts))
                self.assertTrue(is_proof(one, start, other, begin, amounts))
                self.assertIs(answered(is_potentials, one, start, other, begin, amounts), True)
        self.assertGreater(min(kinds.count(True), kinds.count(False)), 30)

    def test_amounts_that_were_changed_a_little(self):
        source = random.Random(182)
        found = []
        for one, start, other, begin in small_cases(183, 150):
            amounts = potentials(one, start, other, begin)
            if amounts is not None:
                for _ in range(6):
                    pair = source.choice(sorted(amounts))
                    changed = {**amounts, pair: amounts[pair] + source.choice([-2, -1, 1, 1, 2, LARGE])}
                    found.append(answered(is_potentials, one, start, other, begin, changed))
                    self.assertIs(found[-1], is_proof(one, start, other, begin, changed))
        self.assertGreater(min(found.count(True), found.count(False)), 30)

    def test_the_pairs_must_be_just_those_of_the_two_policies(self):
        for one, start, other, begin in small_cases(184, 60):
            amounts = potentials(one, start, other, begin)
            if amounts is not None:
                self.assertIs(is_potentials(one, start, other, begin, {}), False)
                for pair in amounts:
                    fewer = {key: amounts[key] for key in amounts if key != pair}
                    self.assertIs(answered(is_potentials, one, start, other, begin, fewer), False)
                others = [(at, by) for at in range(-1, len(one) + 1) for by in range(-1, len(other) + 1)]
                for pair in others:
                    if pair not in amounts:
                        self.assertIs(answered(is_potentials, one, start, other, begin, {**amounts, pair: 0}), False)

    def test_the_amount_of_the_start_is_the_greatest_difference(self):
        amounts = {(0, 0): 8, (1, 0): 3, (2, 0): 0}
        self.assertEqual(answered(potentials, DOWN, 0, LONELY, 0)[(0, 0)], 8)
        self.assertIs(is_potentials(DOWN, 0, LONELY, 0, amounts), True)
        self.assertIs(is_potentials(DOWN, 0, LONELY, 0, {**amounts, (0, 0): 9}), False)
        self.assertIs(is_potentials(DOWN, 0, LONELY, 0, {pair: 1 + amounts[pair] for pair in amounts}), False)
        self.assertIs(is_potentials(DOWN, 0, LONELY, 0, {**amounts, (0, 0): 7}), False)
        self.assertIs(is_potentials(DOWN, 0, LONELY, 0, {**amounts, (1, 0): 4}), False)

    def test_amounts_other_than_that_of_the_start_may_be_greater_than_they_must(self):
        one = Scale([0, 2, 1, 0], [[1, 2], [3, 3], [3, 3], [3, 3]])
        amounts = {(0, 0): 2, (1, 0): 2, (2, 0): 1, (3, 0): 0}
        self.assertIs(is_potentials(one, 0, LONELY, 0, amounts), True)
        self.assertIs(is_potentials(one, 0, LONELY, 0, {**amounts, (2, 0): 2}), True)
        self.assertIs(is_potentials(one, 0, LONELY, 0, {**amounts, (2, 0): 3}), False)
        self.assertIs(is_potentials(one, 0, LONELY, 0, {**amounts, (1, 0): 1}), False)

    def test_no_amount_is_below_zero(self):
        one = Scale([0, 0], [[1], [1]])
        other = Scale([1], [[0]])
        self.assertIs(is_potentials(one, 0, other, 0, {(0, 0): 0, (1, 0): 0}), True)
        self.assertIs(is_potentials(one, 0, other, 0, {(0, 0): 0, (1, 0): 1}), True)
        self.assertIs(is_potentials(one, 0, other, 0, {(0, 0): 0, (1, 0): -1}), False)
        self.assertIs(is_potentials(one, 0, other, 0, {(0, 0): -1, (1, 0): 0}), False)

    def test_no_amounts_show_what_grows_without_end(self):
        self.assertIsNone(answered(potentials, DEAREST, 0, LONELY, 0))
        for amount in (0, 1, 1000000, LARGE):
            self.assertIs(answered(is_potentials, DEAREST, 0, LONELY, 0, {(0, 0): amount}), False)
        amounts = {pair: LARGE for pair in pairs(MILD, 0, HARSH, 0)}
        self.assertIs(answered(is_potentials, MILD, 0, HARSH, 0, amounts), False)

    def test_a_returned_dict_is_the_caller_s(self):
        potentials(MILD, 2, HARSH + 10, 0).clear()
        self.assertTrue(is_proof(MILD, 2, HARSH + 10, 0, potentials(MILD, 2, HARSH + 10, 0)))


class ByYearsTest(unittest.TestCase):

    def test_edges(self):
        self.assertEqual(answered(by_years, MILD, 0, HARSH, 0, 2), [(0, 0), (10, 10), (-60, 20)])
        self.assertEqual(answered(by_years, MILD, 0, HARSH, 0, 0), [(0, 0)])
        self.assertEqual(answered(by_years, LONELY, 0, LONELY, 0, 1), [(0, 0), (0, 0)])
        self.assertEqual(answered(by_years, DEAREST, 0, LONELY, 0, 1000),
                         [(1000000 * years, 1000000 * years) for years in range(1001)])

    def test_all_rows_of_a_few_years(self):
        for one, start, other, begin in small_cases(191, 100):
            found = answered(by_years, one, start, other, begin, 4)
            self.assertEqual(len(found), 5)
            for years, span in enumerate(found):
                rows = all_rows(max(one.columns, other.columns), years)
                sums = [gained(one, start, other, begin, row) for row in rows]
                self.assertEqual(span, (min(sums), max(sums)))

    def test_many_years(self):
        for one, start, other, begin in small_cases(192, 20):
            self.assertEqual(by_years(one, start, other, begin, 60), spans(one, start, other, begin, 60))
        one, other = long_ladders()
        self.assertEqual(by_years(one, 3, other, 11, 40), spans(one, 3, other, 11, 40))
        told = by_years(MILD, 0, HARSH, 1, 1000)
        self.assertEqual(told, spans(MILD, 0, HARSH, 1, 1000))
        self.assertTrue(all(type(span) is tuple and len(span) == 2 for span in told))


class ComparingTest(unittest.TestCase):

    def test_no_excess_of_a_scale_against_itself(self):
        for scale in [*random_scales(201, 40), LONELY, *long_ladders()]:
            for start in range(len(scale)):
                self.assertEqual(answered(excess, scale, start, scale, start), ("most", 0, []))
                self.assertIs(never_more(scale, start, scale, start), True)
                self.assertEqual(by_years(scale, start, scale, start, 3), [(0, 0)] * 4)

    def test_excesses_add_up(self):
        compared = 0
        cases = small_cases(202, 200, pairs=16)
        for (one, start, two, begin), (_, _, three, last) in zip(cases, cases[1:]):
            told = [excess(one, start, two, begin), excess(two, begin, three, last)]
            if told[0][0] == told[1][0] == "most":
                through = excess(one, start, three, last)
                self.assertEqual(through[0], "most")
                self.assertLessEqual(through[1], told[0][1] + told[1][1])
                compared += 1
        self.assertGreater(compared, 20)

    def test_the_amount_is_what_the_greatest_differences_come_to(self):
        for one, start, other, begin in small_cases(203, 60):
            told = excess(one, start, other, begin)
            greatest = [high for _, high in by_years(one, start, other, begin, 40)]
            if told[0] == "most":
                self.assertEqual(max(greatest), told[1])
                self.assertEqual(greatest.index(told[1]), len(told[2]))
            else:
                self.assertGreater(max(greatest[20:]), max(greatest[:20]))


class LargeScalesTest(unittest.TestCase):

    def test_amounts_and_rows_of_twelve_classes(self):
        one, other = long_ladders()
        dear = Scale([1000000 - at for at in range(12)], other.table())
        # It leads on and on to cheaper classes, and its last class is cheaper than those of the others.
        fading = Scale([1000000 - 90909 * at for at in range(12)],
                       [[min(at + step, 11) for step in (1, 2, 1, 3, 5)] for at in range(12)])
        kinds = []
        cases = [(one, 11, other, 0), (other, 0, one, 11), (one, 0, other, 0), (one, 5, one, 9), (one, 11, dear, 0),
                 (fading, 0, one, 0), (fading, 0, other, 11), (fading, 3, fading, 0), (fading, 0, fading, 3)]
        for large, start, small, begin in cases:
            kinds.append(ExcessTest.check(self, large, start, small, begin))
            amounts = potentials(large, start, small, begin)
            self.assertEqual(amounts is None, kinds[-1] is None)
            if amounts is not None:
                leads = graph(large, start, small, begin)
                self.assertEqual(sorted(amounts), sorted(leads))
                self.assertTrue(all(amounts[pair] >= max(0, added(large, small, pair) + amounts[to])
                                    for pair in leads for to in leads[pair]))
                self.assertEqual(amounts[(start, begin)], kinds[-1])
                self.assertIs(is_potentials(large, start, small, begin, amounts), True)
        self.assertGreater(kinds.count(None), 0)
        self.assertGreater(len([kind for kind in kinds if kind]), 2)

    def test_a_ring_of_all_pairs(self):
        for above in (1, 0, -1):
            one, other = rings_of_unlike_lengths(above)
            self.assertEqual(gained(one, 0, other, 0, [0] * 132), above)
            for start, begin in ((0, 0), (5, 2), (1, 6), (11, 10)):
                amount = ExcessTest.check(self, one, start, other, begin)
                told = excess(one, start, other, begin)
                amounts = potentials(one, start, other, begin)
                greatest = max(high for _, high in spans(one, start, other, begin, 132))
                if above == 1:
                    self.assertEqual((amount, len(told[2]) % 132, amounts), (None, 0, None))
                else:
                    self.assertEqual((amount, len(amounts), amounts[(start, begin)]), (greatest, 132, greatest))
                    self.assertIs(is_potentials(one, start, other, begin, amounts), True)
                self.assertEqual(pairs(one, start, other, begin), [(at, by) for at in range(12) for by in range(11)])

    def test_large_scales_are_answered_soon(self):
        began = time.perf_counter()
        source = random.Random(204)
        for scale, other in [long_ladders(), (random_scale(source, 12, 5), random_scale(source, 12, 5))]:
            for one, two in ((scale, other), (other, scale), (scale, scale)):
                start, begin = len(one) - 1, 0
                for deed, more in ErrorsTest.calls:
                    deed(one, start, two, begin, *more)
                by_years(one, start, two, begin, 1000)
        self.assertLess(time.perf_counter() - began, 15)

    def test_layers_of_the_search(self):
        # The search that these tests rest on, by hand.
        self.assertEqual(layers(MILD, 0, HARSH, 0, 2), [{(0, 0): (0, 0)}, {(0, 0): (10, 10), (1, 1): (10, 10)}, {
            (0, 0): (-60, 20), (1, 1): (20, 20), (2, 1): (-60, -60)}])


if __name__ == "__main__":
    unittest.main()
