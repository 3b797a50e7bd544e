"""Points 3 and 10 to 14: scales that are made from steps or from other scales."""

import itertools
import random
import unittest

from claimclasses.makers import both, by_steps, delayed, protected, renumbered
from claimclasses.scales import Scale
from tests.helpers import LARGE, NO_INTEGERS, NO_LISTS, raised, random_row, random_scale, random_scales


def ladder():
    return Scale([100, 140, 200], [[0, 1, 2], [0, 2, 2], [1, 2, 2]])


def flat(classes, columns=1, premium=0):
    return Scale([premium] * classes, [[0] * columns for _ in range(classes)])


class ByStepsTest(unittest.TestCase):

    def test_tables(self):
        self.assertEqual(by_steps([5, 6, 7, 8], 1, [2]).table(), [[0, 2], [0, 3], [1, 3], [2, 3]])
        self.assertEqual(by_steps([5, 6, 7, 8], 2, [0, 1, 3, 12]).table(),
                         [[0, 0, 1, 3, 3], [0, 1, 2, 3, 3], [0, 2, 3, 3, 3], [1, 3, 3, 3, 3]])
        self.assertEqual(by_steps([5, 6, 7], 0, [3, 1]).table(), [[0, 2, 1], [1, 2, 2], [2, 2, 2]])

    def test_steps_against_the_words_of_the_document(self):
        source = random.Random(23)
        for _ in range(100):
            premiums = [source.randint(0, 1000000) for _ in range(source.randint(1, 12))]
            down = source.randint(0, 12)
            ups = [source.randint(0, 12) for _ in range(source.randint(1, 4))]
            kept = (list(premiums), list(ups))
            scale = by_steps(premiums, down, ups)
            self.assertIsInstance(scale, Scale)
            self.assertEqual((premiums, ups), kept)
            self.assertEqual(scale.premiums(), premiums)
            self.assertEqual(scale.columns, len(ups) + 1)
            for at in range(len(premiums)):
                self.assertEqual(scale(at, 0), at - down if at >= down else 0)
                for claims in range(1, 8):
                    up = ups[claims - 1] if claims <= len(ups) else ups[-1]
                    self.assertEqual(scale(at, claims), at + up if at + up < len(premiums) else len(premiums) - 1)
                self.assertEqual(scale(at, LARGE), scale(at, len(ups)))

    def test_bounds(self):
        self.assertEqual(by_steps([0], 0, [0]).table(), [[0, 0]])
        self.assertEqual(by_steps([0] * 12, 12, [12] * 4).table(), [[0, 11, 11, 11, 11]] * 12)
        self.assertEqual(by_steps([1000000], 12, [12]).premiums(), [1000000])

    def test_bad_premiums(self):
        for premiums in NO_LISTS:
            self.assertEqual(raised(by_steps, premiums, 1, [1]), ("BadPremiums",), premiums)
        for premium in (-1, 1000001, LARGE, *NO_INTEGERS):
            self.assertEqual(raised(by_steps, [0, premium], 1, [1]), ("BadPremiums",), premium)
        self.assertEqual(raised(by_steps, [], 1, [1]), ("BadPremiums",))
        self.assertEqual(raised(by_steps, [0] * 13, 1, [1]), ("BadPremiums",))

    def test_bad_steps(self):
        for down in (-1, 13, LARGE, -LARGE, *NO_INTEGERS):
            self.assertEqual(raised(by_steps, [1, 2], down, [1]), ("BadSteps",), down)
            self.assertEqual(raised(by_steps, [1, 2], 1, [down]), ("BadSteps",), down)
            self.assertEqual(raised(by_steps, [1, 2], 1, [1, 2, down]), ("BadSteps",), down)
        for ups in (*NO_LISTS, [], [1] * 5):
            self.assertEqual(raised(by_steps, [1, 2], 1, ups), ("BadSteps",), ups)

    def test_bad_premiums_come_before_bad_steps(self):
        for premiums in ([], [True], (1,)):
            self.assertEqual(raised(by_steps, premiums, -1, []), ("BadPremiums",))
            self.assertEqual(raised(by_steps, premiums, 1, (1,)), ("BadPremiums",))

    def test_arguments_are_copied(self):
        premiums, ups = [1, 2], [1]
        scale = by_steps(premiums, 1, ups)
        premiums[0] = 9
        premiums.append(3)
        ups[0] = 0
        ups.append(4)
        self.assertEqual((scale.premiums(), scale.table()), ([1, 2], [[0, 1], [0, 1]]))


def protected_classes(scale, years, start, row):
    """Classes of a policy with one protected claim, told from the years before each one."""
    at, found = start, [start]
    for year, claims in enumerate(row):
        spared = claims == 1 and year >= years and not any(row[year - years:year])
        at = scale(at, 0 if spared else claims)
        found.append(at)
    return found


class ProtectedTest(unittest.TestCase):

    def test_one_protected_claim(self):
        scale = Scale([10, 20, 30], [[0, 1], [0, 2], [1, 2]])
        kept = protected(scale, 2)
        start = 2 * 3
        # The first claim finds one year without a claim, the second one two of them, the third one none.
        self.assertEqual(kept.classes(start, [0, 1, 0, 0, 1, 1]), [6, 4, 6, 4, 2, 0, 3])
        self.assertEqual(kept.bills(start, [0, 1, 0, 0, 1, 1]), [30, 20, 30, 20, 10, 10])

    def test_two_claims_are_not_protected(self):
        scale = Scale([10, 20], [[0, 1], [0, 1]])
        self.assertEqual([protected(scale, 1)(1, claims) for claims in (0, 1, 2, 3, LARGE)], [1, 0, 2, 2, 2])
        wide = Scale([10, 20, 30], [[0, 1, 2, 1], [0, 1, 2, 1], [0, 1, 2, 0]])
        self.assertEqual([protected(wide, 1)(1, claims) for claims in (0, 1, 2, 3, 4)], [1, 0, 4, 2, 2])

    def test_a_protected_claim_ends_the_years_without_a_claim(self):
        scale = Scale([10, 20], [[0, 1], [1, 1]])
        self.assertEqual(protected(scale, 1).classes(0, [0, 1, 1]), [0, 1, 0, 2])

    def test_numbers_of_columns(self):
        for columns, new in ((1, 2), (2, 3), (3, 3), (4, 4), (5, 5)):
            self.assertEqual(protected(flat(2, columns), 1).columns, new)

    def test_one_column(self):
        scale = Scale([10, 20], [[1], [0]])
        self.assertEqual(protected(scale, 1).table(), [[3, 2], [3, 2], [1, 0], [1, 0]])

    def test_five_columns(self):
        scale = Scale([1, 2, 3, 4, 5], [[0, 1, 2, 3, 4], [0, 0, 3, 4, 1], [1, 2, 0, 4, 3], [0, 4, 4, 1, 2], [3, 0, 1, 2, 4]])
        told = protected(scale, 1).table()
        self.assertEqual(told[0], [1, 2, 4, 6, 8])
        self.assertEqual(told[1], [1, 0, 4, 6, 8])
        self.assertEqual(told[8], [7, 0, 2, 4, 8])
        self.assertEqual(told[9], [7, 6, 2, 4, 8])

    def test_classes_and_premiums(self):
        kept = protected(ladder(), 3)
        self.assertEqual(kept.premiums(), [100] * 4 + [140] * 4 + [200] * 4)
        self.assertEqual([leads[0] for leads in kept.table()], [1, 2, 3, 3, 1, 2, 3, 3, 5, 6, 7, 7])

    def test_policies_year_by_year(self):
        source = random.Random(29)
        for _ in range(300):
            years = source.randint(1, 11)
            scale = random_scale(source, classes=source.randint(1, 12 // (years + 1)))
            start = source.randrange(len(scale))
            row = random_row(source, 25)
            kept = protected(scale, years)
            self.assertEqual(len(kept), len(scale) * (years + 1))
            classes = kept.classes(start * (years + 1), row)
            told = protected_classes(scale, years, start, row)
            self.assertEqual([at // (years + 1) for at in classes], told)
            self.assertEqual([kept.premium(at) for at in classes], [scale.premium(at) for at in told])
            for year, at in enumerate(classes):
                free = 0
                while free < min(year, years) and row[year - 1 - free] == 0:
                    free += 1
                self.assertEqual(at % (years + 1), free)

    def test_most_years_and_most_classes(self):
        kept = protected(Scale([7], [[0, 0]]), 11)
        self.assertEqual((len(kept), kept.columns, kept.premiums()), (12, 3, [7] * 12))
        self.assertEqual(kept.table(), [[min(at + 1, 11), 0, 0] for at in range(12)])
        self.assertEqual(len(protected(flat(6), 1)), 12)
        self.assertEqual(len(protected(flat(4), 2)), 12)

    def test_too_many_classes(self):
        for classes, years in ((7, 1), (12, 1), (5, 2), (2, 6), (2, 11), (12, 11), (1, 12)):
            self.assertEqual(raised(protected, flat(classes), years), ("TooMany", classes * (years + 1)))

    def test_the_scale_stays(self):
        scale = ladder()
        protected(scale, 1)
        self.assertTrue(scale.same(ladder()))


class BothTest(unittest.TestCase):

    def test_classes_and_premiums(self):
        one = Scale([1, 2, 3], [[0, 1], [0, 2], [1, 2]])
        other = Scale([10, 20], [[1, 0, 1], [0, 1, 1]])
        told = both(one, other)
        self.assertEqual(told.premiums(), [11, 21, 12, 22, 13, 23])
        self.assertEqual(told.table(), [[1, 2, 3], [0, 3, 3], [1, 4, 5], [0, 5, 5], [3, 4, 5], [2, 5, 5]])

    def test_numbers_of_columns(self):
        for first, second in itertools.product(range(1, 6), repeat=2):
            self.assertEqual(both(flat(2, first), flat(3, second)).columns, max(first, second))

    def test_policies_year_by_year(self):
        source = random.Random(31)
        for _ in range(200):
            one = random_scale(source, classes=source.randint(1, 12), dearest=500000)
            other = random_scale(source, classes=source.randint(1, 12 // len(one)), dearest=500000)
            if source.randint(0, 1):
                one, other = other, one
            told = both(one, other)
            row = random_row(source)
            start, begin = source.randrange(len(one)), source.randrange(len(other))
            self.assertEqual(told.classes(start * len(other) + begin, row),
                             [at * len(other) + by for at, by in zip(one.classes(start, row), other.classes(begin, row))])
            self.assertEqual(told.bills(start * len(other) + begin, row),
                             [a + b for a, b in zip(one.bills(start, row), other.bills(begin, row))])

    def test_one_scale_twice(self):
        scale = Scale([1, 2, 3], [[0, 1], [0, 2], [1, 2]])
        self.assertEqual(both(scale, scale).premiums(), [2, 3, 4, 3, 4, 5, 4, 5, 6])
        self.assertEqual(scale.premiums(), [1, 2, 3])

    def test_too_many_classes(self):
        for one, other in ((12, 2), (2, 7), (4, 4), (12, 12), (5, 3)):
            self.assertEqual(raised(both, flat(one), flat(other)), ("TooMany", one * other))
        for one, other in ((12, 1), (1, 12), (3, 4), (6, 2)):
            self.assertEqual(len(both(flat(one), flat(other))), 12)

    def test_bad_premiums(self):
        one = Scale([600000, 0], [[0], [1]])
        self.assertEqual(both(one, Scale([400000], [[0]])).premiums(), [1000000, 400000])
        self.assertEqual(raised(both, one, Scale([0, 400001], [[0], [0]])), ("BadPremiums",))
        self.assertEqual(raised(both, Scale([1000000], [[0]]), Scale([1], [[0]])), ("BadPremiums",))

    def test_too_many_comes_before_bad_premiums(self):
        self.assertEqual(raised(both, flat(4, 1, 1000000), flat(4, 1, 1000000)), ("TooMany", 16))


class DelayedTest(unittest.TestCase):

    def test_table(self):
        scale = Scale([1, 2], [[0, 1, 1], [0, 1, 0]])
        told = delayed(scale)
        self.assertEqual(told.premiums(), [1, 1, 1, 2, 2, 2])
        self.assertEqual(told.table(), [[0, 1, 2], [3, 4, 5], [3, 4, 5], [0, 1, 2], [3, 4, 5], [0, 1, 2]])

    def test_one_column(self):
        scale = Scale([1, 2, 3], [[2], [0], [1]])
        self.assertTrue(delayed(scale).same(scale))

    def test_claims_count_a_year_later(self):
        source = random.Random(37)
        for _ in range(200):
            columns = source.randint(1, 5)
            scale = random_scale(source, classes=source.randint(1, 12 // columns), columns=columns)
            told = delayed(scale)
            self.assertEqual((len(told), told.columns), (len(scale) * columns, columns))
            start, waiting = source.randrange(len(scale)), source.randrange(columns)
            row = random_row(source)
            classes = scale.classes(start, [waiting] + row)[:-1]
            columns_waiting = [min(claims, columns - 1) for claims in [waiting] + row]
            self.assertEqual(told.classes(start * columns + waiting, row),
                             [at * columns + column for at, column in zip(classes, columns_waiting)])
            self.assertEqual(told.bills(start * columns + waiting, row),
                             [scale.premium(at) for at in classes[:len(row)]])

    def test_too_many_classes(self):
        for classes, columns in ((7, 2), (5, 3), (4, 4), (3, 5), (12, 2), (12, 5)):
            self.assertEqual(raised(delayed, flat(classes, columns)), ("TooMany", classes * columns))
        for classes, columns in ((12, 1), (6, 2), (4, 3), (3, 4)):
            self.assertEqual(len(delayed(flat(classes, columns))), 12)

    def test_the_scale_stays(self):
        scale = ladder()
        delayed(scale)
        self.assertTrue(scale.same(ladder()))


class RenumberedTest(unittest.TestCase):

    def test_other_numbers(self):
        source = random.Random(41)
        for scale in random_scales(43, 60):
            order = list(range(len(scale)))
            source.shuffle(order)
            kept = list(order)
            told = renumbered(scale, order)
            self.assertEqual(order, kept)
            self.assertEqual((len(told), told.columns), (len(scale), scale.columns))
            for i, at in enumerate(order):
                self.assertEqual(told.premium(i), scale.premium(at))
                for claims in range(scale.columns):
                    self.assertEqual(order[told(i, claims)], scale(at, claims))

    def test_a_turn_is_not_its_own_reverse(self):
        told = renumbered(ladder(), [1, 2, 0])
        self.assertEqual(told.premiums(), [140, 200, 100])
        self.assertEqual(told.table(), [[2, 1, 1], [0, 1, 1], [2, 0, 1]])

    def test_the_same_numbers(self):
        self.assertTrue(renumbered(ladder(), [0, 1, 2]).same(ladder()))
        self.assertTrue(renumbered(flat(1), [0]).same(flat(1)))

    def test_bad_orders(self):
        orders = (*NO_LISTS, [], [0, 1], [0, 1, 2, 0], [0, 1, 1], [0, 0, 0], [1, 2, 3], [0, 1, 3], [0, 1, -1],
                  [-3, -2, -1], [0, 1, 2, 3], (0, 1, 2), {0: 0, 1: 1, 2: 2}, range(3), [0, 1, LARGE], [0, 1, [2]])
        for order in orders:
            self.assertEqual(raised(renumbered, ladder(), order), ("BadOrder",), order)
        for wrong in NO_INTEGERS:
            self.assertEqual(raised(renumbered, ladder(), [0, wrong, 2]), ("BadOrder",), wrong)
        self.assertEqual(raised(renumbered, flat(2), [False, True]), ("BadOrder",))
        self.assertEqual(raised(renumbered, flat(1), [False]), ("BadOrder",))
        self.assertEqual(raised(renumbered, flat(12), list(range(1, 13))), ("BadOrder",))

    def test_arguments_may_be_changed_afterwards(self):
        scale, order = ladder(), [2, 0, 1]
        told = renumbered(scale, order)
        order.reverse()
        self.assertEqual(told.premiums(), [200, 100, 140])
        self.assertTrue(scale.same(ladder()))


class NewListsTest(unittest.TestCase):

    def test_made_scales_share_nothing(self):
        scale = Scale([1, 2], [[0, 1], [0, 1]])
        makers = (
            lambda: by_steps([1, 2], 1, [1]),
            lambda: protected(scale, 1),
            lambda: both(scale, scale),
            lambda: delayed(scale),
            lambda: renumbered(scale, [1, 0]),
            lambda: scale + 1,
            lambda: scale * 2,
            lambda: scale.limited(2),
        )
        for maker in makers:
            made = maker()
            premiums, table = made.premiums(), made.table()
            self.assertEqual(len({id(leads) for leads in table}), len(table))
            made.premiums()[0] = 5
            for leads in made.table():
                leads[0] = 99
            self.assertEqual((made.premiums(), made.table()), (premiums, table))
            self.assertEqual((scale.premiums(), scale.table()), ([1, 2], [[0, 1], [0, 1]]))


if __name__ == "__main__":
    unittest.main()
