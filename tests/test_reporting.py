"""Points 3, 4 and 44 to 49: claims that are worth reporting."""

import itertools
import random
import time
import unittest

from claimclasses.pairs import excess
from claimclasses.reporting import never_worth, report, report_paper, surely_worth, worth, worth_ever
from claimclasses.scales import Scale
from tests.helpers import (DEAREST, HARSH, LARGE, LONELY, MILD, NO_INTEGERS, NO_LISTS, all_rows, amount_told, answered,
                           gained, is_row, led, long_ladders, most_amount, raised, random_scale, random_scales, spans)


def costs(scale, start, choices, own, after):
    """What a choice comes to; it has for each year the list of tuples (damage, whether it is reported)."""
    at, total = start, 0
    for choice in choices:
        total += scale.premiums()[at]
        total += sum(min(own, damage) if reported else damage for damage, reported in choice)
        at = led(scale, at, sum(reported for _, reported in choice))
    for _ in range(after):
        total += scale.premiums()[at]
        at = led(scale, at, 0)
    return total


def all_choices(damages):
    """All choices of damages to report, the great and the small ones."""
    by_year = [[list(zip(year, told)) for told in itertools.product((True, False), repeat=len(year))]
               for year in damages]
    return itertools.product(*by_year)


def greatest_first(damages, row):
    """The choice in which the greatest damages of each year are reported."""
    return [[(damage, place < many) for place, damage in enumerate(sorted(year)[::-1])]
            for year, many in zip(damages, row)]


def random_damages(source, years, most):
    return [[source.choice([0, 1, 5, 9, 20, source.randint(0, 60)]) for _ in range(source.randint(0, most))]
            for _ in range(years)]


def small_scales(seed, many):
    source = random.Random(seed)
    return [random_scale(source, source.randint(1, 4), source.randint(1, 4), source.choice([5, 30])) if at % 2 else
            Scale(sorted(source.randint(0, 60) for _ in range(3)),
                  [[0, *sorted(source.randint(0, 2) for _ in range(2))] for _ in range(3)])
            for at in range(many)]


class ReportTest(unittest.TestCase):

    def check(self, scale, start, damages, own, after):
        """Looks at what is told by a walk year by year; returns the sum."""
        told = answered(report, scale, start, damages, own, after)
        self.assertEqual((type(told), len(told)), (tuple, 2))
        cost, row = told
        self.assertTrue(type(cost) is int and is_row(row))
        self.assertEqual(len(row), len(damages))
        self.assertTrue(all(many <= len(year) for many, year in zip(row, damages)))
        self.assertEqual(costs(scale, start, greatest_first(damages, row), own, after), cost)
        return cost

    def test_all_choices_of_a_few_damages(self):
        source = random.Random(451)
        found = []
        for scale in [*small_scales(452, 150), *random_scales(453, 20, 40)]:
            start = source.randrange(len(scale))
            damages = random_damages(source, source.randint(0, 3), 3)
            own, after = source.choice([0, 0, 1, 7, 30, 100]), source.choice([0, 0, 1, 2, 5])
            cost = self.check(scale, start, damages, own, after)
            sums = [costs(scale, start, choice, own, after) for choice in all_choices(damages)]
            self.assertEqual(cost, min(sums))
            found.append(cost not in (costs(scale, start, greatest_first(damages, [len(year) for year in damages]),
                                            own, after),
                                      costs(scale, start, greatest_first(damages, [0] * len(damages)), own, after)))
        # To report all of them, or none, was often not best.
        self.assertGreater(found.count(True), 20)

    def test_six_damages(self):
        source = random.Random(454)
        for scale in [*small_scales(455, 10), *long_ladders()]:
            damages = [[source.randint(0, 50000) for _ in range(6)] for _ in range(2)]
            sums = [costs(scale, 0, choice, 900, 3) for choice in all_choices(damages)]
            self.assertEqual(self.check(scale, 0, damages, 900, 3), min(sums))

    def test_what_is_left_out(self):
        for damages in ([[20], [35]], [], [[]]):
            self.assertEqual(answered(report, MILD, 0, damages), answered(report, MILD, 0, damages, 0, 0))
            self.assertEqual(answered(report, MILD, 0, damages, 10), answered(report, MILD, 0, damages, 10, 0))
        self.assertEqual(report(MILD, 0, [[20], [35]], own=10, after=3), (555, [0, 0]))

    def test_edges(self):
        self.assertEqual(answered(report, MILD, 0, [[20, 500], [35]]), (230, [2, 1]))
        self.assertEqual(answered(report, MILD, 0, [[20], [35]], 10, 3), (555, [0, 0]))
        self.assertEqual(answered(report, MILD, 2, []), (0, []))
        self.assertEqual(answered(report, MILD, 2, [], 5, 1000), (160 + 130 + 998 * 100, []))
        self.assertEqual(answered(report, MILD, 2, [[], [], []]), (390, [0, 0, 0]))
        self.assertEqual(answered(report, DEAREST, 0, [[LARGE, 0]], 0, 1000)[0], 1001000000)
        # A share above all damages is never more than a damage.
        self.assertEqual(self.check(MILD, 0, [[20, 30], [35]], LARGE, 2), 100 + 50 + 100 + 35 + 200)
        self.assertEqual(answered(report, MILD, 0, [[20, 30], [35]], LARGE, 2)[1], [0, 0])
        self.assertEqual(self.check(MILD, 0, [[LARGE, LARGE]], LARGE - 1, 0), 100 + 2 * (LARGE - 1))
        self.assertEqual(self.check(MILD, 0, [[0, 0, 0]], 5, 3), 400)

    def test_the_greatest_damages_are_reported_wherever_they_stand(self):
        # Two claims are as dear as many, and one as none.
        scale = Scale([0, 1000], [[0, 0, 1], [1, 1, 1]])
        for damages in itertools.permutations([10, 300, 20]):
            self.assertEqual(answered(report, scale, 0, [list(damages)], 4, 1), (34, [1]))
            self.assertEqual(self.check(scale, 0, [list(damages), [7], list(damages)], 4, 1), 34 + 4 + 34)

    def test_eight_years(self):
        source = random.Random(456)
        for scale in small_scales(457, 20):
            damages = random_damages(source, 8, 1)
            own, after = source.choice([0, 5]), source.choice([0, 3])
            sums = [costs(scale, 0, choice, own, after) for choice in all_choices(damages)]
            self.assertEqual(self.check(scale, 0, damages, own, after), min(sums))

    def test_a_few_more_years_and_damages_than_told(self):
        damages = [[5, 8, 2, 9, 1, 3, 7, 4, 6]] * 10
        self.assertLessEqual(self.check(MILD, 0, damages, 2, 5), costs(MILD, 0, greatest_first(damages, [9] * 10), 2, 5))


class ReportPaperTest(unittest.TestCase):

    def test_amounts(self):
        source = random.Random(461)
        for scale in [*small_scales(462, 60), *random_scales(463, 10, 40)]:
            damages = random_damages(source, source.randint(0, 3), 3)
            own, after = source.choice([0, 1, 7, 100]), source.choice([0, 1, 5])
            paper = answered(report_paper, scale, damages, own, after)
            self.assertEqual(len(paper), len(damages) + 1)
            for place in range(len(damages) + 1):
                choices = list(all_choices(damages[place:]))
                self.assertEqual(paper[place], [min(costs(scale, at, choice, own, after) for choice in choices)
                                                for at in range(len(scale))])
            # The amounts also show it step by step, as point 45 tells.
            for place, year in enumerate(damages):
                falling = sorted(year)[::-1]
                borne = [sum(min(own, damage) for damage in falling[:many]) + sum(falling[many:])
                         for many in range(len(year) + 1)]
                for at in range(len(scale)):
                    sums = [scale.premium(at) + borne[many] + paper[place + 1][led(scale, at, many)]
                            for many in range(len(year) + 1)]
                    self.assertEqual(paper[place][at], min(sums))
                    self.assertEqual(report(scale, at, damages[place:], own, after)[0], paper[place][at])

    def test_edges(self):
        self.assertEqual(answered(report_paper, HARSH, [[50, 120]], 0, 1), [[290, 400], [90, 200]])
        self.assertEqual(answered(report_paper, HARSH, [[50, 120]]), [[90, 200], [0, 0]])
        self.assertEqual(answered(report_paper, HARSH, [], 0), [[0, 0]])
        self.assertEqual(answered(report_paper, MILD, [], 7, 1000), [[100000, 100030, 100090]])
        self.assertEqual(answered(report_paper, DEAREST, [[LARGE]], LARGE, 1), [[2000000 + LARGE], [1000000]])
        self.assertEqual(answered(report_paper, LONELY, [[], []]), [[0], [0], [0]])


class WorthTest(unittest.TestCase):

    def test_all_rows_of_a_few_years(self):
        source = random.Random(471)
        for scale in small_scales(472, 60):
            at, claims, years = source.randrange(len(scale)), source.randint(0, 4), source.randint(0, 4)
            more, fewer = led(scale, at, claims + 1), led(scale, at, claims)
            sums = [gained(scale, more, scale, fewer, row) for row in all_rows(scale.columns, years)]
            found = answered(worth, scale, at, claims, years)
            self.assertEqual((type(found), found), (tuple, (min(sums), max(sums))))
            for saved in (found[0] - 1, found[0], found[0] + 1, -LARGE, LARGE):
                self.assertIs(answered(never_worth, scale, at, claims, saved, years), found[0] >= saved)

    def test_many_years(self):
        for scale in [MILD, HARSH, *random_scales(473, 6), *long_ladders()]:
            for years in (0, 1, 40):
                more, fewer = led(scale, 0, 1), led(scale, 0, 0)
                self.assertEqual(worth(scale, 0, 0, years), spans(scale, more, scale, fewer, years)[-1])

    def test_edges(self):
        self.assertEqual(answered(worth, MILD, 0, 0, 2), (30, 60))
        self.assertEqual(answered(worth, HARSH, 0, 0, 1), (110, 110))
        self.assertEqual(answered(worth, HARSH, 0, 0, 0), (0, 0))
        self.assertEqual(answered(worth, HARSH, 0, 0, 1000), (110, 110))
        self.assertEqual(answered(worth, LONELY, 0, LARGE, 1000), (0, 0))
        # Beyond the last column one claim more changes nothing.
        for claims in (1, 2, LARGE, 10 ** 30 - 1):
            self.assertEqual(answered(worth, MILD, 1, claims, 50), (0, 0))
            self.assertEqual(answered(worth_ever, MILD, 1, claims), ("most", 0, []))
        self.assertIs(answered(never_worth, MILD, 0, 0, 30, 1), True)
        self.assertIs(answered(never_worth, MILD, 0, 0, 31, 1), False)
        self.assertIs(answered(never_worth, MILD, 0, 0, 30, 0), False)
        self.assertIs(answered(never_worth, MILD, 0, 0, 0, 0), True)


class WorthEverTest(unittest.TestCase):

    def test_small_scales(self):
        source = random.Random(481)
        found = []
        for scale in small_scales(482, 150):
            at, claims = source.randrange(len(scale)), source.randint(0, 4)
            more, fewer = led(scale, at, claims + 1), led(scale, at, claims)
            amount = amount_told(answered(worth_ever, scale, at, claims), scale, more, scale, fewer)
            found.append(amount)
            self.assertEqual(amount, most_amount(scale, more, scale, fewer))
            for saved in (0, 5, LARGE, -1, -LARGE):
                self.assertIs(answered(surely_worth, scale, at, claims, saved), amount is not None and amount <= saved)
            if amount is not None:
                self.assertIs(surely_worth(scale, at, claims, amount), True)
                self.assertIs(surely_worth(scale, at, claims, amount - 1), False)
        self.assertGreater(found.count(None), 10)
        self.assertGreater(found.count(0), 20)
        self.assertGreater(len([amount for amount in found if amount]), 10)

    def test_edges(self):
        self.assertEqual(answered(worth_ever, HARSH, 1, 0)[:2], ("most", 110))
        self.assertIs(answered(surely_worth, HARSH, 0, 0, 110), True)
        self.assertIs(answered(surely_worth, HARSH, 0, 0, 109), False)
        self.assertEqual(answered(worth_ever, LONELY, 0, 0), ("most", 0, []))
        self.assertEqual(answered(worth_ever, Scale([0, 1], [[0, 1], [1, 1]]), 0, 0)[0], "endless")
        self.assertIs(answered(surely_worth, Scale([0, 1], [[0, 1], [1, 1]]), 0, 0, LARGE), False)


class LaterChoicesTest(unittest.TestCase):

    def test_policies_that_choose_later_what_to_report(self):
        # Point 49: the least sums differ by a number between the least and the greatest one of `worth`.
        source = random.Random(491)
        apart = 0
        for scale in [*small_scales(492, 100), *random_scales(493, 30, 40)]:
            at, claims = source.randrange(len(scale)), source.randint(0, 2)
            damages = random_damages(source, source.randint(0, 5), 4)
            own, after = source.choice([0, 1, 7]), source.choice([0, 1, 5])
            sums = report_paper(scale, damages, own, after)[0]
            least, greatest = worth(scale, at, claims, len(damages) + after)
            found = sums[led(scale, at, claims + 1)] - sums[led(scale, at, claims)]
            self.assertTrue(least <= found <= greatest)
            apart += least < found < greatest
        self.assertGreater(apart, 5)


class ErrorsTest(unittest.TestCase):

    wrong = (*NO_LISTS, [1], [[1], 2], [None], [(1, 2)], [{}], ["1"], [[-1]], [[0], [3, -1]], [[1.0]], [[True]],
             [[0, None]], [[[1]]], [["5"]], [[-LARGE]], [[5], range(3)])

    def test_damages(self):
        for bad in self.wrong:
            self.assertEqual(raised(report, MILD, 0, bad), ("BadDamages",), bad)
            self.assertEqual(raised(report, MILD, 0, bad, 0, -1), ("BadDamages",), bad)
            self.assertEqual(raised(report_paper, MILD, bad), ("BadDamages",), bad)
            self.assertEqual(raised(report_paper, LONELY, bad, 0, None), ("BadDamages",), bad)

    def test_classes(self):
        for bad in (-1, 3, LARGE, *NO_INTEGERS):
            self.assertEqual(raised(report, MILD, bad, None, 0, -1), ("NoClass", bad))
            self.assertEqual(raised(report, MILD, bad, [[1]]), ("NoClass", bad))
            self.assertEqual(raised(worth, MILD, bad, -1, -1), ("NoClass", bad))
            self.assertEqual(raised(worth_ever, MILD, bad, -1), ("NoClass", bad))
            self.assertEqual(raised(surely_worth, MILD, bad, -1, 0), ("NoClass", bad))
            self.assertEqual(raised(never_worth, MILD, bad, -1, 0, -1), ("NoClass", bad))

    def test_claims(self):
        for bad in (-1, -LARGE, *NO_INTEGERS):
            self.assertEqual(raised(worth, MILD, 0, bad, -1), ("BadClaims", bad))
            self.assertEqual(raised(worth_ever, LONELY, 0, bad), ("BadClaims", bad))
            self.assertEqual(raised(surely_worth, MILD, 2, bad, 0), ("BadClaims", bad))
            self.assertEqual(raised(never_worth, MILD, 0, bad, 0, -1), ("BadClaims", bad))

    def test_years(self):
        for bad in (-1, 1001, LARGE, -LARGE, *NO_INTEGERS):
            self.assertEqual(raised(report, MILD, 0, [[1]], 0, bad), ("BadYears", bad))
            self.assertEqual(raised(report, MILD, 0, [], 0, bad), ("BadYears", bad))
            self.assertEqual(raised(report_paper, MILD, [[1]], 0, bad), ("BadYears", bad))
            self.assertEqual(raised(report_paper, LONELY, [], 0, bad), ("BadYears", bad))
            self.assertEqual(raised(worth, MILD, 0, 0, bad), ("BadYears", bad))
            self.assertEqual(raised(never_worth, LONELY, 0, 0, 5, bad), ("BadYears", bad))


class LargeScalesTest(unittest.TestCase):

    def test_large_scales_are_answered_soon(self):
        began = time.perf_counter()
        source = random.Random(501)
        damages = [[source.randint(0, 10 ** 6) for _ in range(6)] for _ in range(8)]
        for scale in [*long_ladders(), *[random_scale(source, 12, 5) for _ in range(2)]]:
            report(scale, 0, damages, 100, 1000)
            report_paper(scale, damages, 100, 1000)
            worth(scale, 0, 0, 1000)
            never_worth(scale, 0, 1, 5, 1000)
            worth_ever(scale, 0, 0)
            surely_worth(scale, 0, 1, 5)
        self.assertLess(time.perf_counter() - began, 15)

    def test_worth_ever_is_told_as_excess_tells_it(self):
        for scale in [*long_ladders(), *random_scales(502, 10)]:
            more, fewer = led(scale, 0, 1), led(scale, 0, 0)
            amount = amount_told(worth_ever(scale, 0, 0), scale, more, scale, fewer)
            self.assertEqual(amount, amount_told(excess(scale, more, scale, fewer), scale, more, scale, fewer))


if __name__ == "__main__":
    unittest.main()
