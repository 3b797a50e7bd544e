"""Points 3, 4 and 25 to 29: policies that are billed alike."""

import random
import time
import unittest

from claimclasses.alike import alike_in, least, least_from, needless_columns, parting_row
from claimclasses.makers import renumbered
from claimclasses.scales import Scale
from tests.helpers import (DEAREST, LARGE, LONELY, NO_INTEGERS, added, all_rows, answered, graph, is_row, led,
                           long_ladders, raised, random_scale, random_scales, rings_of_unlike_lengths, small_cases,
                           steps_to, walked)

TWIN = Scale([10, 10, 20], [[1, 2, 2], [0, 2, 2], [0, 2, 2]])
# A policy comes to the dear last class only behind eleven years with five claims or more, one directly after the other.
LATE = Scale([0] * 11 + [1000000], [[0, 0, 0, 0, min(at + 1, 11)] for at in range(12)])


def are_alike(one, start, other, begin):
    """Whether two policies are billed alike, by all pairs to which they ever come."""
    return all(one.premiums()[at] == other.premiums()[by] for at, by in graph(one, start, other, begin))


def bills_of(scale, at, columns, years):
    """The premiums behind all rows of at most so many years: as many years as there are classes tell classes apart."""
    leads = [[led(scale, old, k) for k in range(columns)] for old in range(len(scale))]
    behind = [at]
    told = [scale.premium(at)]
    for _ in range(years):
        behind = [to for old in behind for to in leads[old]]
        told.extend([scale.premium(to) for to in behind])
    return tuple(told)


def widened(source, scale, classes):
    """A scale with more classes, each of them billed alike as one of the scale; and the list of these."""
    led_to = list(range(len(scale)))
    while len(led_to) < classes:
        led_to.append(source.randrange(len(scale)))
    source.shuffle(led_to)
    table = []
    for at in led_to:
        leads = [led(scale, at, k) for k in range(scale.columns)]
        table.append([source.choice([i for i, old in enumerate(led_to) if old == to]) for to in leads])
    return Scale([scale.premium(at) for at in led_to], table), led_to


def alike_cases(seed, many):
    """Scales of up to five classes, many of which have classes that are alike, and scales that are made from them."""
    source = random.Random(seed)
    cases = []
    for _ in range(many):
        scale = random_scale(source, source.randint(1, 3), source.randint(1, 2), source.choice([0, 1, 2]))
        wide, _ = widened(source, scale, source.randint(len(scale), 5))
        cases.append((scale, wide))
    return cases


class PartingRowTest(unittest.TestCase):

    def check(self, one, start, other, begin):
        """Looks at the row behind which two policies part; returns its length, or None."""
        row = answered(parting_row, one, start, other, begin)
        leads = graph(one, start, other, begin)
        years = steps_to(leads.get, (start, begin), lambda pair: added(one, other, pair) != 0)
        self.assertEqual(None if row is None else len(row), years)
        if row is not None:
            self.assertTrue(is_row(row))
            self.assertNotEqual(added(one, other, walked(one, start, other, begin, row)[-1]), 0)
        return years

    def test_small_scales_and_all_shorter_rows(self):
        lengths = []
        for one, start, other, begin in [*small_cases(251, 200), *[
                (one, 0, wide, at) for one, wide in alike_cases(252, 100) for at in range(len(wide))]]:
            lengths.append(self.check(one, start, other, begin))
            for years in range(min(lengths[-1] or 0, 6)):
                for row in all_rows(max(one.columns, other.columns), years):
                    at, by = walked(one, start, other, begin, row)[-1]
                    self.assertEqual(one.premiums()[at], other.premiums()[by])
        source = random.Random(253)
        for _ in range(60):
            table = random_scale(source, source.randint(3, 6), source.randint(1, 3)).table()
            one = Scale([0] * (len(table) - 1) + [1], table)
            lengths.append(self.check(one, 0, one, 1))
            for years in range(min(lengths[-1] or 0, 6)):
                for row in all_rows(one.columns, years):
                    at, by = walked(one, 0, one, 1, row)[-1]
                    self.assertEqual(one.premiums()[at], one.premiums()[by])
        self.assertGreater(lengths.count(None), 50)
        for length in range(3):
            self.assertGreater(lengths.count(length), 5)

    def test_edges(self):
        self.assertIsNone(answered(parting_row, LONELY, 0, LONELY, 0))
        self.assertEqual(answered(parting_row, LONELY, 0, DEAREST, 0), [])
        self.assertIsNone(answered(parting_row, TWIN, 0, TWIN, 1))
        self.assertEqual(answered(parting_row, TWIN, 0, TWIN, 2), [])
        self.assertEqual(self.check(TWIN, 0, Scale([10, 20], [[0, 1], [0, 0]]), 0), 2)

    def test_the_premium_behind_the_last_claims_counts(self):
        row = answered(parting_row, LATE, 0, LONELY, 0)
        self.assertEqual(len(row), 11)
        self.assertTrue(all(claims >= 4 for claims in row))
        self.assertEqual(self.check(LATE, 0, LATE, 1), 10)
        self.assertEqual(self.check(LATE, 10, LATE, 9), 1)

    def test_columns_that_only_one_scale_has(self):
        one = Scale([3, 4], [[0, 0, 0, 1], [1, 1, 1, 1]])
        other = Scale([3], [[0]])
        for told in (answered(parting_row, one, 0, other, 0), answered(parting_row, other, 0, one, 0)):
            self.assertEqual(len(told), 1)
            self.assertGreaterEqual(told[0], 3)

    def test_scales_of_twelve_classes(self):
        source = random.Random(254)
        for _ in range(40):
            # Few classes are dear, so that it takes some years to come to them.
            table = random_scale(source, 12, source.randint(1, 2)).table()
            one = Scale([0] * 11 + [1], table)
            other = Scale([0] * 10 + [1, 1], table)
            self.check(one, source.randrange(12), one, source.randrange(12))
            self.check(one, source.randrange(12), other, source.randrange(12))
        one, other = rings_of_unlike_lengths(-1)
        for start in range(12):
            self.check(one, start, other, 3)

    def test_errors(self):
        for bad in (-1, 3, LARGE, *NO_INTEGERS):
            self.assertEqual(raised(parting_row, TWIN, bad, LONELY, 0), ("NoClass", bad), bad)
            self.assertEqual(raised(parting_row, LONELY, 0, TWIN, bad), ("NoClass", bad), bad)
            self.assertEqual(raised(parting_row, TWIN, bad, LONELY, 9), ("NoClass", bad), bad)
        self.assertEqual(raised(parting_row, LONELY, 1, TWIN, 1), ("NoClass", 1))


class AlikeInTest(unittest.TestCase):

    def test_small_scales(self):
        for one, _, other, _ in small_cases(261, 150):
            self.assertEqual(answered(alike_in, one, other),
                             [[by for by in range(len(other)) if are_alike(one, at, other, by)]
                              for at in range(len(one))])

    def test_scales_with_alike_classes(self):
        for scale, wide in alike_cases(262, 100):
            for one, other in ((scale, wide), (wide, scale), (wide, wide)):
                columns, years = one.columns, len(one) + len(other) - 1
                bills = [bills_of(other, by, columns, years) for by in range(len(other))]
                self.assertEqual(answered(alike_in, one, other),
                                 [[by for by, told in enumerate(bills) if told == bills_of(one, at, columns, years)]
                                  for at in range(len(one))])

    def test_edges(self):
        self.assertEqual(answered(alike_in, LONELY, LONELY), [[0]])
        self.assertEqual(answered(alike_in, LONELY, DEAREST), [[]])
        self.assertEqual(answered(alike_in, TWIN, TWIN), [[0, 1], [0, 1], [2]])
        self.assertEqual(answered(alike_in, TWIN, LONELY), [[], [], []])
        self.assertEqual(answered(alike_in, LONELY, Scale([0] * 12, [[11 - at] for at in range(12)])),
                         [list(range(12))])
        self.assertEqual(answered(alike_in, LATE, LATE), [[at] for at in range(12)])

    def test_unlike_columns(self):
        one = Scale([3, 4], [[0, 1], [0, 1]])
        other = Scale([4, 3, 3], [[1, 0, 0], [1, 0, 0], [1, 0, 1]])
        self.assertEqual(answered(alike_in, one, other), [[1], [0]])
        self.assertEqual(answered(alike_in, other, one), [[1], [0], []])

    def test_no_list_stands_in_another_one_twice(self):
        found = alike_in(TWIN, TWIN)
        found[0].append(7)
        self.assertEqual(found, [[0, 1, 7], [0, 1], [2]])
        self.assertEqual(alike_in(TWIN, TWIN), [[0, 1], [0, 1], [2]])


class LeastTest(unittest.TestCase):

    def check(self, scale):
        """Looks at the scale with the fewest classes; returns it."""
        told = answered(least, scale)
        self.assertEqual((type(told), len(told), type(told[1])), (tuple, 2, list))
        smaller, led_to = told
        self.assertEqual((len(led_to), smaller.columns), (len(scale), scale.columns))
        for at, to in enumerate(led_to):
            self.assertTrue(are_alike(scale, at, smaller, to))
        # Each class of the smaller scale is needed, as no two of them are alike.
        self.assertEqual(sorted(set(led_to)), list(range(len(smaller))))
        for at in range(len(smaller)):
            for by in range(at):
                self.assertFalse(are_alike(smaller, at, smaller, by))
        firsts = [led_to.index(to) for to in range(len(smaller))]
        self.assertEqual(firsts, sorted(firsts))
        return smaller

    def test_small_scales(self):
        for scale, wide in alike_cases(271, 150):
            smaller = self.check(wide)
            self.assertLessEqual(len(smaller), len(scale))
            bills = {bills_of(wide, at, wide.columns, len(wide)) for at in range(len(wide))}
            self.assertEqual(len(smaller), len(bills))

    def test_random_scales(self):
        for scale in [*random_scales(272, 60, dearest=1), *random_scales(273, 20), *long_ladders()]:
            self.check(scale)

    def test_edges(self):
        smaller, led_to = answered(least, TWIN)
        self.assertEqual((smaller.premiums(), smaller.table(), led_to), ([10, 20], [[0, 1, 1], [0, 1, 1]], [0, 0, 1]))
        for scale in (LONELY, DEAREST, LATE):
            smaller, led_to = answered(least, scale)
            self.assertTrue(smaller.same(scale))
            self.assertEqual(led_to, list(range(len(scale))))
        smaller, led_to = answered(least, Scale([7] * 12, [[11 - at, at, 0, 5, 3] for at in range(12)]))
        self.assertEqual((smaller.premiums(), smaller.table(), led_to), ([7], [[0] * 5], [0] * 12))

    def test_the_order_of_the_groups(self):
        # Classes 1, 3 and 4 are alike, and so are 0 and 2; premiums and tables play no part in the order.
        scale = Scale([9, 5, 9, 5, 5, 1], [[1, 5], [0, 3], [4, 5], [2, 1], [2, 4], [5, 0]])
        smaller, led_to = answered(least, scale)
        self.assertEqual((smaller.premiums(), smaller.table(), led_to),
                         ([9, 5, 1], [[1, 2], [0, 1], [2, 0]], [0, 1, 0, 1, 1, 2]))

    def test_classes_of_one_premium_that_part_later(self):
        smaller, led_to = answered(least, Scale([0, 0, 0, 0, 9], [[1], [2], [3], [4], [4]]))
        self.assertEqual((len(smaller), led_to), (5, [0, 1, 2, 3, 4]))

    def test_the_list_is_the_caller_s(self):
        led_to = least(TWIN)[1]
        led_to.append(5)
        self.assertEqual(least(TWIN)[1], [0, 0, 1])


class LeastFromTest(unittest.TestCase):

    def check(self, scale, start):
        """Looks at the scale with the fewest classes for one start; returns it."""
        found = answered(least_from, scale, start)
        self.assertIsInstance(found, Scale)
        self.assertEqual(found.columns, scale.columns)
        self.assertTrue(are_alike(scale, start, found, 0))
        for at in range(len(found)):
            for by in range(at):
                self.assertFalse(are_alike(found, at, found, by))
        self.assertEqual(self.order(found), list(range(len(found))))
        return found

    def order(self, scale):
        """The classes in the order in which the rows come to them, shorter rows first."""
        came = []
        rows = [[]]
        # Among the rows that lead to one class only the first one can lead on to a class first.
        while rows:
            further = []
            for row in rows:
                at = walked(scale, 0, scale, 0, row)[-1][0]
                if at not in came:
                    came.append(at)
                    further.extend([*row, claims] for claims in range(scale.columns))
            rows = further
        return came

    def test_small_scales(self):
        for _, wide in alike_cases(281, 150):
            for start in range(len(wide)):
                found = self.check(wide, start)
                reached = {at for at, _ in graph(wide, start, wide, start)}
                bills = {bills_of(wide, at, wide.columns, len(wide)) for at in reached}
                self.assertEqual(len(found), len(bills))

    def test_the_order_in_which_all_rows_come_to_the_classes(self):
        source = random.Random(282)
        for _ in range(40):
            scale = least_from(random_scale(source, source.randint(1, 6), source.randint(1, 3), 2), 0)
            came = []
            for years in range(7):
                for row in all_rows(scale.columns, years):
                    at = scale.classes(0, row)[-1]
                    if at not in came:
                        came.append(at)
            self.assertEqual(came, list(range(len(scale))))

    def test_random_scales(self):
        for scale in [*random_scales(283, 40, dearest=1), *random_scales(284, 10), *long_ladders()]:
            for start in range(len(scale)):
                self.check(scale, start)

    def test_edges(self):
        self.assertEqual(answered(least_from, TWIN, 2).premiums(), [20, 10])
        self.assertEqual(answered(least_from, TWIN, 2).table(), [[1, 0, 0], [1, 0, 0]])
        self.assertEqual(answered(least_from, TWIN, 1).table(), [[0, 1, 1], [0, 1, 1]])
        self.assertTrue(answered(least_from, LONELY, 0).same(LONELY))
        self.assertTrue(answered(least_from, LATE, 0).same(LATE))
        # Only the last class of this one can be reached from itself.
        self.assertTrue(answered(least_from, Scale([7, 8], [[1, 0], [1, 1]]), 1).same(Scale([8], [[0, 0]])))

    def test_lower_columns_come_first_and_shorter_rows_before_them(self):
        scale = Scale([1, 2, 3, 4, 5], [[4, 1, 3], [1, 1, 1], [2, 2, 2], [2, 2, 2], [0, 2, 0]])
        self.assertEqual(answered(least_from, scale, 0).premiums(), [1, 5, 2, 4, 3])
        self.assertEqual(least_from(scale, 0).table(), [[1, 2, 3], [0, 4, 0], [2, 2, 2], [4, 4, 4], [4, 4, 4]])

    def test_two_policies_are_billed_alike_exactly_if_their_scales_are_the_same(self):
        source = random.Random(285)
        kinds = []
        for scale, wide in alike_cases(286, 120):
            order = source.sample(range(len(wide)), len(wide))
            turned = renumbered(wide, order)
            other = random_scale(source, source.randint(1, 3), scale.columns, 1)
            for two in (wide, turned, other):
                for start in range(len(scale)):
                    for begin in range(len(two)):
                        same = least_from(scale, start).same(least_from(two, begin))
                        self.assertEqual(same, are_alike(scale, start, two, begin))
                        kinds.append(same)
        self.assertGreater(min(kinds.count(True), kinds.count(False)), 100)

    def test_errors(self):
        for bad in (-1, 3, LARGE, *NO_INTEGERS):
            self.assertEqual(raised(least_from, TWIN, bad), ("NoClass", bad), bad)


class NeedlessColumnsTest(unittest.TestCase):

    def count(self, scale):
        """Point 29, said once more without the program."""
        fitting = []
        for count in range(scale.columns):
            fewer = Scale(scale.premiums(), [leads[:scale.columns - count] for leads in scale.table()])
            if all(are_alike(scale, at, fewer, at) for at in range(len(scale))):
                fitting.append(count)
        return max(fitting)

    def test_random_scales(self):
        source = random.Random(291)
        counts = []
        for _ in range(300):
            scale = random_scale(source, source.randint(1, 4), source.randint(1, 5), source.choice([0, 1, 3]))
            kept = source.randint(1, scale.columns)
            # Columns that were the same may differ by classes that are alike.
            flat = Scale(scale.premiums(), [[led(scale, at, min(k, kept - 1)) for k in range(scale.columns)]
                                            for at in range(len(scale))])
            wide, _ = widened(source, flat, source.randint(len(flat), 6))
            for told in (scale, flat, wide):
                counts.append(answered(needless_columns, told))
                self.assertEqual(counts[-1], self.count(told))
            self.assertGreaterEqual(min(counts[-2:]), scale.columns - kept)
        self.assertGreater(min(counts.count(count) for count in range(5)), 20)

    def test_edges(self):
        self.assertEqual(answered(needless_columns, TWIN), 1)
        self.assertEqual(answered(needless_columns, LONELY), 0)
        self.assertEqual(answered(needless_columns, LATE), 0)
        self.assertEqual(answered(needless_columns, Scale([0] * 12, [[at, 1, 2, 3, 4] for at in range(12)])), 4)
        self.assertEqual(answered(needless_columns, Scale([5, 6], [[0, 1, 1, 1, 1], [0, 1, 1, 1, 1]])), 3)
        # The last column is needed, though the one before it is not.
        self.assertEqual(answered(needless_columns, Scale([5, 6], [[0, 0, 0, 1], [0, 0, 0, 1]])), 0)

    def test_one_class_that_needs_a_column_is_enough(self):
        table = [[0, 0, 0, 0, 0] for _ in range(12)]
        table[7][3] = table[7][4] = 1
        self.assertEqual(answered(needless_columns, Scale([0, 1] + [0] * 10, table)), 1)


class LargeScalesTest(unittest.TestCase):

    def test_large_scales_are_answered_soon(self):
        began = time.perf_counter()
        source = random.Random(295)
        for one, other in [long_ladders(), (random_scale(source, 12, 5, 1), random_scale(source, 12, 5, 1)),
                           (LATE, LATE)]:
            parting_row(one, 11, other, 0)
            alike_in(one, other)
            least(one)
            least_from(one, 11)
            needless_columns(one)
        self.assertLess(time.perf_counter() - began, 15)


if __name__ == "__main__":
    unittest.main()
