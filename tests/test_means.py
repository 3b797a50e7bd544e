"""Points 3, 4 and 21 to 24: long runs."""

import random
import time
import unittest
from fractions import Fraction

from claimclasses.means import greatest_mean, is_mean_potentials, least_mean, long_run, mean_potentials, offset
from claimclasses.pairs import excess, never_more
from claimclasses.scales import Scale
from tests.helpers import (DEAREST, HARSH, LARGE, LONELY, MILD, NO_INTEGERS, RefusedClasses, added, all_rows, answered,
                           gained, graph, is_row, long_ladders, raised, random_scale, random_scales, ring_sums,
                           rings_of_unlike_lengths, small_cases, spans, walked)

# Its years go round all three classes.
ROUND = Scale([1, 0, 4], [[1], [2], [0]])


def is_fraction(told):
    """Whether this is a tuple (top, bottom) in lowest terms with a bottom above 0."""
    if type(told) is not tuple or [type(part) for part in told] != [int, int] or told[1] < 1:
        return False
    return (Fraction(*told).numerator, Fraction(*told).denominator) == told


def ring_means(one, start, other, begin):
    return [Fraction(amount, years) for amount, years in ring_sums(one, start, other, begin)]


def is_mean_proof(one, start, other, begin, mean, amounts):
    """Point 22, said once more without the program."""
    leads = graph(one, start, other, begin)
    if sorted(amounts) != sorted(leads):
        return False
    for pair in leads:
        for to in leads[pair]:
            if amounts[pair] < mean[1] * added(one, other, pair) - mean[0] + amounts[to]:
                return False
    return True


class MeansTest(unittest.TestCase):

    def check(self, deed, one, start, other, begin):
        """Looks at what a mean tells, by walks year by year; returns the mean."""
        told = answered(deed, one, start, other, begin)
        self.assertEqual((type(told), len(told)), (tuple, 3))
        mean, front, ring = told
        self.assertTrue(is_fraction(mean), mean)
        self.assertTrue(is_row(front) and is_row(ring) and len(ring) > 0)
        at, by = walked(one, start, other, begin, front)[-1]
        self.assertEqual(walked(one, at, other, by, ring)[-1], (at, by))
        self.assertEqual(Fraction(gained(one, at, other, by, ring), len(ring)), Fraction(*mean))
        return Fraction(*mean)

    def test_small_scales_against_all_their_rings(self):
        found = []
        for one, start, other, begin in small_cases(211, 300):
            means = ring_means(one, start, other, begin)
            self.assertEqual(self.check(greatest_mean, one, start, other, begin), max(means))
            self.assertEqual(self.check(least_mean, one, start, other, begin), min(means))
            found.append(max(means))
        # Means of all signs, and fractions, were among them.
        for kind in (lambda mean: mean < 0, lambda mean: mean == 0, lambda mean: mean > 0,
                     lambda mean: mean.denominator > 1):
            self.assertGreater(len([mean for mean in found if kind(mean)]), 20)

    def test_examples(self):
        self.assertEqual((answered(greatest_mean, MILD, 0, HARSH, 0)[0], answered(least_mean, MILD, 0, HARSH, 0)[0]),
                         ((10, 1), (-40, 1)))

    def test_one_class(self):
        for deed in (greatest_mean, least_mean):
            for one, other, mean in ((LONELY, LONELY, 0), (DEAREST, LONELY, 1000000), (LONELY, DEAREST, -1000000)):
                self.assertEqual(answered(deed, one, 0, other, 0)[0], (mean, 1))
                self.assertEqual(self.check(deed, one, 0, other, 0), mean)

    def test_lowest_terms(self):
        for deed in (greatest_mean, least_mean):
            self.assertEqual(answered(deed, ROUND, 0, LONELY, 0)[0], (5, 3))
            self.assertEqual(answered(deed, LONELY, 0, ROUND, 1)[0], (-5, 3))
            self.assertEqual(answered(deed, ROUND + 1, 2, LONELY, 0)[0], (8, 3))
            self.assertEqual(answered(deed, ROUND * 3, 2, LONELY, 0)[0], (5, 1))
            self.assertEqual(answered(deed, ROUND, 2, ROUND, 0)[0], (0, 1))
            self.assertEqual(answered(deed, Scale([3, 0, 3, 0], [[1], [2], [3], [0]]), 0, LONELY, 0)[0], (3, 2))

    def test_only_rings_that_can_be_reached_count(self):
        one = Scale([9, 5, 1], [[0, 1], [1, 1], [2, 2]])
        self.assertEqual([answered(deed, one, start, LONELY, 0)[0][0] for start in range(3)
                          for deed in (least_mean, greatest_mean)], [5, 9, 5, 5, 1, 1])

    def test_a_ring_behind_a_long_front(self):
        one = Scale([50] * 11 + [60], [[0, min(at + 1, 11)] if at < 11 else [0, 11] for at in range(12)])
        mean, front, ring = answered(greatest_mean, one, 0, LONELY, 0)
        self.assertEqual((mean, {min(claims, 1) for claims in ring}), ((60, 1), {1}))
        self.assertEqual(self.check(greatest_mean, one, 0, LONELY, 0), 60)
        self.assertGreaterEqual(len(front), 11)

    def test_a_long_ring_with_a_mean_a_little_above_that_of_a_short_one(self):
        # A year with a claim in class 0 leads round all classes, and the mean of this ring is above 100 by 1/12.
        table = [[0, 1]] + [[(at + 1) % 12] * 2 for at in range(1, 12)]
        one = Scale([100] * 11 + [101], table)
        self.assertEqual(answered(greatest_mean, one, 0, LONELY, 0)[0], (1201, 12))
        self.assertEqual(answered(least_mean, one, 0, LONELY, 0)[0], (100, 1))
        self.assertEqual(self.check(greatest_mean, one, 3, LONELY, 0), Fraction(1201, 12))
        self.assertEqual(self.check(least_mean, one, 3, LONELY, 0), 100)

    def test_the_means_of_both_ways_round(self):
        for one, start, other, begin in small_cases(212, 60):
            top, bottom = greatest_mean(one, start, other, begin)[0]
            self.assertEqual(least_mean(other, begin, one, start)[0], (-top, bottom))


class PotentialsTest(unittest.TestCase):

    def test_small_scales(self):
        for one, start, other, begin in small_cases(221, 200):
            amounts = answered(mean_potentials, one, start, other, begin)
            top, bottom = greatest_mean(one, start, other, begin)[0]
            self.assertTrue(all(type(amount) is int for amount in amounts.values()))
            self.assertTrue(is_mean_proof(one, start, other, begin, (top, bottom), amounts))
            self.assertIs(answered(is_mean_potentials, one, start, other, begin, (top, bottom), amounts), True)
            # Lesser means cannot be shown by any amounts, greater ones with this bottom by the same ones.
            self.assertIs(is_mean_potentials(one, start, other, begin, (top - 1, bottom), amounts), False)
            self.assertIs(is_mean_potentials(one, start, other, begin, (top + 1, bottom), amounts), True)

    def test_amounts_and_means_that_were_changed_a_little(self):
        source = random.Random(222)
        found = []
        for one, start, other, begin in small_cases(223, 200):
            amounts = mean_potentials(one, start, other, begin)
            top, bottom = greatest_mean(one, start, other, begin)[0]
            for _ in range(6):
                pair = source.choice(sorted(amounts))
                changed = {**amounts, pair: amounts[pair] + source.choice([-2, -1, 0, 1, 2, LARGE])}
                mean = (top + source.choice([0, 0, 1, -1]), bottom + source.choice([0, 0, 1]))
                found.append(answered(is_mean_potentials, one, start, other, begin, mean, changed))
                self.assertIs(found[-1], is_mean_proof(one, start, other, begin, mean, changed))
        self.assertGreater(min(found.count(True), found.count(False)), 100)

    def test_the_pairs_must_be_just_those_of_the_two_policies(self):
        for one, start, other, begin in small_cases(224, 60):
            amounts = mean_potentials(one, start, other, begin)
            mean = greatest_mean(one, start, other, begin)[0]
            self.assertIs(is_mean_potentials(one, start, other, begin, mean, {}), False)
            for pair in amounts:
                fewer = {key: amounts[key] for key in amounts if key != pair}
                self.assertIs(answered(is_mean_potentials, one, start, other, begin, mean, fewer), False)
            for pair in [(at, by) for at in range(-1, len(one) + 1) for by in range(-1, len(other) + 1)]:
                if pair not in amounts:
                    more = {**amounts, pair: 0}
                    self.assertIs(answered(is_mean_potentials, one, start, other, begin, mean, more), False)

    def test_a_mean_counts_as_it_is_passed(self):
        amounts = {(0, 0): 0, (1, 0): 2, (2, 0): 7}
        self.assertIs(is_mean_proof(ROUND, 0, LONELY, 0, (5, 3), amounts), True)
        self.assertIs(answered(is_mean_potentials, ROUND, 0, LONELY, 0, (5, 3), amounts), True)
        double = {pair: 2 * amounts[pair] for pair in amounts}
        self.assertIs(answered(is_mean_potentials, ROUND, 0, LONELY, 0, (10, 6), double), True)
        self.assertIs(answered(is_mean_potentials, ROUND, 0, LONELY, 0, (10, 6), amounts), False)
        self.assertIs(answered(is_mean_potentials, ROUND, 0, LONELY, 0, (5, 3), double), False)
        self.assertIs(is_mean_potentials(DEAREST, 0, LONELY, 0, (7000000, 7), {(0, 0): 3}), True)
        self.assertIs(is_mean_potentials(DEAREST, 0, LONELY, 0, (6999999, 7), {(0, 0): 3}), False)

    def test_amounts_may_be_below_zero(self):
        amounts = {(0, 0): -LARGE, (1, 0): 2 - LARGE, (2, 0): 7 - LARGE}
        self.assertIs(answered(is_mean_potentials, ROUND, 0, LONELY, 0, (5, 3), amounts), True)
        self.assertIs(is_mean_potentials(LONELY, 0, DEAREST, 0, (-1000000, 1), {(0, 0): -1}), True)
        self.assertIs(is_mean_potentials(LONELY, 0, DEAREST, 0, (-1000001, 1), {(0, 0): -1}), False)

    def test_each_number_of_claims_counts(self):
        # In each of these scales one number of claims alone leads from class 0 to the dear class 1.
        for column in range(5):
            one = Scale([0, 5], [[int(column == k) for k in range(5)], [0] * 5])
            self.assertEqual(greatest_mean(one, 0, LONELY, 0)[0], (5, 2))
            self.assertIs(is_mean_potentials(one, 0, LONELY, 0, (5, 2), {(0, 0): 0, (1, 0): 5}), True)
            self.assertIs(is_mean_potentials(one, 0, LONELY, 0, (0, 1), {(0, 0): 0, (1, 0): 5}), False)
            self.assertIs(is_mean_potentials(LONELY, 0, one, 0, (0, 1), {(0, 0): 0, (0, 1): -5}), True)
            self.assertIs(is_mean_potentials(LONELY, 0, one, 0, (0, 1), {(0, 0): 0, (0, 1): 1}), False)


class OffsetTest(unittest.TestCase):

    def test_small_scales_against_all_rows(self):
        found = []
        for one, start, other, begin in small_cases(231, 250):
            told = answered(offset, one, start, other, begin)
            self.assertTrue(is_fraction(told), told)
            mean = max(ring_means(one, start, other, begin))
            years = 2 * len(graph(one, start, other, begin))
            above = [high - n * mean for n, (_, high) in enumerate(spans(one, start, other, begin, years))]
            self.assertEqual(Fraction(*told), max(above))
            found.append(told)
        self.assertGreater(min(found.count((0, 1)), len([told for told in found if told[1] > 1])), 5)

    def test_all_rows_of_a_few_years(self):
        for one, start, other, begin in small_cases(232, 60):
            most = Fraction(*greatest_mean(one, start, other, begin)[0])
            above = Fraction(*offset(one, start, other, begin))
            for years in range(5):
                for row in all_rows(max(one.columns, other.columns), years):
                    self.assertLessEqual(gained(one, start, other, begin, row), years * most + above)

    def test_edges(self):
        self.assertEqual(answered(offset, MILD, 2, HARSH, 0), (90, 1))
        self.assertEqual(answered(offset, LONELY, 0, LONELY, 0), (0, 1))
        self.assertEqual(answered(offset, DEAREST, 0, LONELY, 0), (0, 1))
        self.assertEqual(answered(offset, LONELY, 0, DEAREST, 0), (0, 1))
        # Behind 1, 2 and 3 years from class 2 the difference is 4, 5 and 5, and the mean 5/3.
        self.assertEqual([answered(offset, ROUND, start, LONELY, 0) for start in range(3)], [(0, 1), (2, 3), (7, 3)])
        self.assertEqual(answered(offset, ROUND * 3, 2, LONELY, 0), (7, 1))
        self.assertEqual(answered(offset, Scale([3, 0, 3, 0], [[1], [2], [3], [0]]), 0, LONELY, 0), (3, 2))

    def test_no_offset_is_below_zero(self):
        # Each row of one year or more is below the mean.
        one = Scale([0, 5], [[1], [1]])
        self.assertEqual(answered(offset, one, 0, LONELY, 0), (0, 1))

    def test_no_lesser_mean_holds_in_the_long_run(self):
        for one, start, other, begin in small_cases(233, 60):
            top, bottom = greatest_mean(one, start, other, begin)[0]
            high = spans(one, start, other, begin, 400)[-1][1]
            self.assertLess(abs(Fraction(high, 400) - Fraction(top, bottom)), 1)


class LongRunTest(unittest.TestCase):

    def test_examples_and_edges(self):
        self.assertEqual(answered(long_run, MILD, 1), ((100, 1), (160, 1)))
        self.assertEqual(answered(long_run, LONELY, 0), ((0, 1), (0, 1)))
        self.assertEqual(answered(long_run, DEAREST, 0), ((1000000, 1), (1000000, 1)))
        self.assertEqual(answered(long_run, ROUND, 2), ((5, 3), (5, 3)))
        one = Scale([9, 5, 1], [[0, 1], [1, 1], [2, 2]])
        self.assertEqual([answered(long_run, one, start) for start in range(3)],
                         [((5, 1), (9, 1)), ((5, 1), (5, 1)), ((1, 1), (1, 1))])

    def test_random_scales_against_all_their_rings(self):
        source = random.Random(241)
        for _ in range(100):
            scale = random_scale(source, source.randint(1, 6), dearest=9)
            start = source.randrange(len(scale))
            means = ring_means(scale, start, LONELY, 0)
            least, greatest = answered(long_run, scale, start)
            self.assertTrue(is_fraction(least) and is_fraction(greatest))
            self.assertEqual((Fraction(*least), Fraction(*greatest)), (min(means), max(means)))

    def test_classes_that_the_scale_does_not_have(self):
        for bad in (-1, 3, LARGE, -LARGE, *NO_INTEGERS):
            self.assertEqual(raised(long_run, MILD, bad), ("NoClass", bad), bad)

    def test_means_and_differences(self):
        kinds = []
        for one, start, other, begin in small_cases(242, 300):
            top = greatest_mean(one, start, other, begin)[0][0]
            if never_more(one, start, other, begin):
                self.assertLessEqual(top, 0)
            told = excess(one, start, other, begin)[0]
            self.assertEqual(told, "endless" if top > 0 else "most")
            kinds.append(top < 0)
        self.assertGreater(kinds.count(True), 30)


class ErrorsTest(RefusedClasses, unittest.TestCase):

    calls = ((greatest_mean, ()), (least_mean, ()), (mean_potentials, ()), (offset, ()),
             (is_mean_potentials, ((10, 1), {(0, 0): 0})))


class LargeScalesTest(unittest.TestCase):

    def test_means_of_twelve_classes(self):
        one, other = long_ladders()
        source = random.Random(251)
        cases = [(one, 11, other, 0), (other, 0, one, 11), (one, 5, one, 9), (*random_scales(252, 1), 0, one, 3)]
        cases.append((random_scale(source, 12, 5), 0, random_scale(source, 12, 5), 11))
        for large, start, small, begin in cases:
            mean = MeansTest.check(self, greatest_mean, large, start, small, begin)
            lowest = MeansTest.check(self, least_mean, large, start, small, begin)
            self.assertLessEqual(lowest, mean)
            # That no ring has a greater or a lesser mean is shown by amounts that are looked at here.
            amounts = mean_potentials(large, start, small, begin)
            told = (mean.numerator, mean.denominator)
            self.assertTrue(is_mean_proof(large, start, small, begin, told, amounts))
            turned = (-lowest.numerator, lowest.denominator)
            amounts = mean_potentials(small, begin, large, start)
            self.assertTrue(is_mean_proof(small, begin, large, start, turned, amounts))
            pairs = len(graph(large, start, small, begin))
            above = max(high - years * mean
                        for years, (_, high) in enumerate(spans(large, start, small, begin, pairs)))
            self.assertEqual(Fraction(*offset(large, start, small, begin)), above)

    def test_a_ring_of_all_pairs(self):
        for above in (1, 0, -1):
            one, other = rings_of_unlike_lengths(above)
            for start, begin in ((0, 0), (5, 2), (1, 6)):
                mean = Fraction(above, 132)
                self.assertEqual(MeansTest.check(self, greatest_mean, one, start, other, begin), mean)
                self.assertEqual(MeansTest.check(self, least_mean, one, start, other, begin), mean)
                amounts = mean_potentials(one, start, other, begin)
                told = (mean.numerator, mean.denominator)
                self.assertTrue(is_mean_proof(one, start, other, begin, told, amounts))
                self.assertIs(is_mean_potentials(one, start, other, begin, told, amounts), True)
                high = max(high - years * mean for years, (_, high) in enumerate(spans(one, start, other, begin, 132)))
                self.assertEqual(Fraction(*offset(one, start, other, begin)), high)

    def test_large_scales_are_answered_soon(self):
        began = time.perf_counter()
        source = random.Random(253)
        for one, other in [long_ladders(), (random_scale(source, 12, 5), random_scale(source, 12, 5))]:
            for deed, more in ErrorsTest.calls:
                deed(one, 11, other, 0, *more)
                deed(one, 11, one, 0, *more)
            long_run(one, 11)
        self.assertLess(time.perf_counter() - began, 15)


if __name__ == "__main__":
    unittest.main()
