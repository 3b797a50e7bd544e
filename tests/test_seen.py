"""Points 3, 4 and 56 to 60: classes that were seen."""

import itertools
import random
import time
import unittest

from claimclasses.scales import Scale
from claimclasses.seen import Seen
from tests.helpers import (HARSH, LARGE, LONELY, MILD, NO_INTEGERS, all_rows, answered, is_row, long_ladders, raised,
                           random_scale, seen_told, story_classes, written)


def all_stories(scale, left):
    """All stories that fit: in each year one of the classes that are left."""
    stories = [(start, row) for start in range(len(scale)) for row in all_rows(scale.columns, len(left) - 1)]
    return [story for story in stories
            if all(at in told for at, told in zip(story_classes(scale, story), left))]


def clash_of(scale, left):
    """Point 59 by trying all years from the shortest runs of years on."""
    for years in range(len(left)):
        for first in range(len(left) - years):
            if not all_stories(scale, left[first:first + years + 1]):
                return first, first + years
    return None


def best_year_of(scale, left):
    """Point 60 by counting the stories that fit behind each answer."""
    stories = [story_classes(scale, story) for story in all_stories(scale, left)]
    if not stories:
        return None
    worst = [max(sum(told[year] == at for told in stories) for at in range(len(scale))) for year in range(len(left))]
    return worst.index(min(worst)), min(worst)


def take_in(source, seen, left, scale):
    """Takes in something on a year, into the object and into the lists of what is left."""
    year = source.randrange(len(left))
    kind = source.randrange(4)
    if kind == 0:
        at = source.randrange(len(scale))
        seen[year] = at
        fitting = [at]
    elif kind == 1:
        amount = source.choice([*scale.premiums(), 77])
        assert seen.paid(year, amount) is None
        fitting = [at for at in range(len(scale)) if scale.premiums()[at] == amount]
    else:
        fitting = [at for at in range(len(scale)) if source.random() < 0.7]
        assert seen.only(year, source.choice([fitting, fitting[::-1], fitting + fitting])) is None
    left[year] = [at for at in left[year] if at in fitting]


class SeenTest(unittest.TestCase):

    def check(self, seen, scale, left):
        many = len(left) - 1
        stories = all_stories(scale, left)
        self.assertEqual([answered(lambda year: seen[year], year) for year in range(many + 1)], left)
        self.assertEqual(seen.stories(), len(stories))
        self.assertEqual([answered(seen.possible, year) for year in range(many + 1)],
                         [sorted({story_classes(scale, story)[year] for story in stories}) for year in range(many + 1)])
        self.assertEqual([answered(seen.columns_in, year) for year in range(many)],
                         [sorted({row[year] for _, row in stories}) for year in range(many)])
        sums = [sum(row) for _, row in stories]
        for deed, best in ((seen.fewest, min), (seen.most, max)):
            told = answered(deed)
            if not stories:
                self.assertIsNone(told)
                continue
            self.assertIn(told, stories)
            self.assertTrue(type(told) is tuple and is_row(told[1]))
            self.assertEqual(sum(told[1]), best(sums))
        self.assertEqual(seen.clash(), clash_of(scale, left))
        self.assertEqual(seen.best_year(), best_year_of(scale, left))
        return len(stories)

    def test_random_knowledge(self):
        source = random.Random(571)
        found = []
        for _ in range(250):
            scale = random_scale(source, source.randint(1, 4), source.randint(1, 3), source.choice([0, 1, 3]))
            many = source.randint(0, 4)
            seen = Seen(scale, many)
            left = [list(range(len(scale))) for _ in range(many + 1)]
            for _ in range(source.randint(0, 4)):
                take_in(source, seen, left, scale)
            found.append(self.check(seen, scale, left))
        self.assertGreater(found.count(0), 20)
        self.assertGreater(found.count(1), 5)
        self.assertGreater(len([count for count in found if count > 1]), 50)

    def test_at_first_nothing_is_known(self):
        for scale in (LONELY, MILD, HARSH, Scale([1, 2], [[0, 1, 0], [1, 1, 0]])):
            for many in range(4):
                left = [list(range(len(scale))) for _ in range(many + 1)]
                seen = Seen(scale, many)
                self.assertEqual(self.check(seen, scale, left), len(scale) * scale.columns ** many)

    def test_no_years(self):
        seen = Seen(MILD, 0)
        self.assertEqual((seen.stories(), seen[0], seen.possible(0), seen.clash()), (3, [0, 1, 2], [0, 1, 2], None))
        self.assertEqual(seen.best_year(), (0, 1))
        seen.only(0, [1, 2])
        self.assertIn(seen.fewest(), [(1, []), (2, [])])
        self.assertIn(seen.most(), [(1, []), (2, [])])
        seen[0] = 0
        self.assertEqual((seen.stories(), seen.fewest(), seen.most(), seen.clash()), (0, None, None, (0, 0)))
        self.assertIsNone(seen.best_year())

    def test_what_was_known_before_stays_known(self):
        seen = Seen(MILD, 1)
        seen.only(1, [0, 1])
        seen.only(1, [1, 2])
        self.assertEqual(seen[1], [1])
        seen[1] = 0
        self.assertEqual(seen[1], [])
        seen.paid(1, 100)
        seen.only(1, [0, 1, 2])
        seen[1] = 1
        self.assertEqual(seen[1], [])
        self.assertEqual(seen[0], [0, 1, 2])

    def test_knowledge_of_all_kinds_comes_together(self):
        scale = Scale([10, 20, 10, 20], [[0, 1], [0, 2], [1, 3], [2, 3]])
        seen = Seen(scale, 1)
        seen.paid(0, 20)
        self.assertEqual(seen[0], [1, 3])
        seen.only(0, [3, 0])
        self.assertEqual(seen[0], [3])
        seen.paid(0, 15)
        self.assertEqual(seen[0], [])
        seen.paid(1, LARGE)
        self.assertEqual(seen[1], [])
        seen.only(1, [])
        self.assertEqual(seen[1], [])

    def test_amounts_far_away(self):
        for amount in (LARGE, -LARGE, -1, 1000001):
            seen = Seen(MILD, 2)
            seen.paid(1, amount)
            self.assertEqual((seen[1], seen.stories(), seen.clash()), ([], 0, (1, 1)))

    def test_stories_are_told_apart_by_their_columns(self):
        # Both columns lead to the same class, and still they are two stories.
        scale = Scale([1], [[0, 0]])
        self.assertEqual(Seen(scale, 3).stories(), 8)
        self.assertEqual((Seen(scale, 3).fewest(), Seen(scale, 3).most()), ((0, [0, 0, 0]), (0, [1, 1, 1])))
        self.assertEqual(Seen(scale, 3).columns_in(2), [0, 1])

    def test_lists_that_were_passed_or_returned(self):
        seen = Seen(MILD, 2)
        classes = [0, 2]
        seen.only(1, classes)
        classes.append(1)
        seen[1].append(1)
        seen.possible(1).clear()
        self.assertEqual((seen[1], classes), ([0, 2], [0, 2, 1]))
        story = seen.fewest()
        story[1].clear()
        self.assertEqual(len(seen.fewest()[1]), 2)


class ClashTest(unittest.TestCase):

    def test_the_fewest_years(self):
        # Class 0 in year 0 leads to class 2 only behind two years with claims.
        seen = Seen(MILD, 6)
        seen[1] = 0
        seen[2] = 2
        self.assertEqual(seen.clash(), (1, 2))
        # A wider clash behind it does not matter, nor one of the same width.
        seen[5] = 0
        seen[6] = 2
        self.assertEqual(seen.clash(), (1, 2))
        # A narrower one does.
        seen.only(4, [])
        self.assertEqual(seen.clash(), (4, 4))

    def test_years_in_between_of_which_nothing_is_known(self):
        seen = Seen(MILD, 9)
        seen[0] = 0
        seen[3] = 0
        seen[5] = 0
        self.assertIsNone(seen.clash())
        seen.only(1, [1, 2])
        seen.only(2, [1, 2])
        # Now two claims came behind year 0, and from class 2 it takes two years to class 0; from year 1 on all fits.
        self.assertEqual(seen.clash(), (0, 3))
        self.assertEqual(clash_of(MILD, [seen[year] for year in range(6)]), (0, 3))

    def test_known_years_outside_of_the_clash_do_not_count(self):
        # Each two years fit, and all three do not.
        scale = Scale([0, 0, 0, 0], [[1], [2], [3], [3]])
        seen = Seen(scale, 2)
        seen.only(0, [0, 1])
        seen.only(1, [1, 3])
        seen.only(2, [2, 3])
        self.assertIsNone(seen.clash())
        seen = Seen(scale, 3)
        seen.only(0, [0, 2])
        seen.only(2, [2])
        seen.only(3, [3])
        self.assertIsNone(seen.clash())
        seen.only(1, [3])
        self.assertEqual(seen.clash(), (1, 2))


class BestYearTest(unittest.TestCase):

    def test_the_first_of_several_years(self):
        self.assertEqual(Seen(LONELY, 5).best_year(), (0, 1))
        self.assertEqual(Seen(MILD, 1).best_year(), (0, 2))
        # All stories end in one class, so the last year tells nothing.
        scale = Scale([0, 0, 0], [[0, 0], [0, 0], [0, 0]])
        self.assertEqual(Seen(scale, 1).best_year(), (0, 2))
        seen = Seen(scale, 1)
        seen[0] = 2
        self.assertEqual(seen.best_year(), (0, 2))

    def test_a_later_year_settles_more(self):
        seen = Seen(Scale([0, 0, 0], [[0, 1, 2], [0, 1, 2], [0, 1, 2]]), 2)
        seen[0] = 0
        seen.only(1, [0, 1])
        self.assertEqual(seen.best_year(), (2, 2))


class ErrorsTest(unittest.TestCase):

    def test_numbers_of_years(self):
        for bad in (-1, 61, LARGE, -LARGE, *NO_INTEGERS):
            self.assertEqual(raised(Seen, MILD, bad), ("BadYears", bad), bad)
        self.assertEqual(Seen(MILD, 60)[60], [0, 1, 2])

    def calls(self, seen):
        return (lambda year: seen[year], seen.possible, seen.columns_in, lambda year: seen.paid(year, 100),
                lambda year: seen.only(year, [7]), lambda year: seen.__setitem__(year, 7))

    def test_years(self):
        for many in (0, 2, 60):
            seen = Seen(MILD, many)
            for deed in self.calls(seen):
                for bad in (-1, many + 1, LARGE, -LARGE, *NO_INTEGERS):
                    self.assertEqual(raised(deed, bad), ("BadYears", bad), bad)
        # The last year has a class, but no claims that show.
        seen = Seen(MILD, 2)
        self.assertEqual(raised(seen.columns_in, 2), ("BadYears", 2))
        self.assertEqual(raised(Seen(MILD, 0).columns_in, 0), ("BadYears", 0))
        self.assertEqual(seen.columns_in(1), [0, 1])

    def test_classes(self):
        seen = Seen(MILD, 2)
        for bad in (-1, 3, LARGE, -LARGE, *NO_INTEGERS):
            self.assertEqual(raised(seen.__setitem__, 0, bad), ("NoClass", bad), bad)
            self.assertEqual(raised(seen.only, 0, [0, bad, -7]), ("NoClass", bad), bad)
            self.assertEqual(raised(seen.only, 2, [bad]), ("NoClass", bad), bad)

    def test_errors_change_nothing(self):
        seen = Seen(MILD, 3)
        seen.only(1, [0, 1])
        seen[3] = 2
        before = seen_told(seen, 3)
        for deed, values in ((seen.__setitem__, (0, 3)), (seen.__setitem__, (4, 0)), (seen.__setitem__, (1, True)),
                             (seen.only, (0, [1, 2, 3])), (seen.only, (1, [0, None])), (seen.only, (-1, [0])),
                             (seen.paid, (4, 100)), (seen.paid, (None, 100)), (seen.possible, (9,)),
                             (seen.columns_in, (3,))):
            raised(deed, *values)
            self.assertEqual(seen_told(seen, 3), before)

    def test_years_are_not_gone_through(self):
        with self.assertRaises(TypeError):
            iter(Seen(MILD, 2))


class TrialTest(unittest.TestCase):

    def setUp(self):
        self.seen = Seen(MILD, 3)
        self.seen.only(1, [0, 1])
        self.seen.paid(3, 130)
        self.before = seen_told(self.seen, 3)

    def assert_as_before(self):
        self.assertEqual(seen_told(self.seen, 3), self.before)

    def test_blocks(self):
        with self.seen.trial() as held:
            self.assertEqual(seen_told(held, 3), self.before)
            held[0] = 2
            held.only(2, [])
            self.assertEqual((held.stories(), held[2]), (0, []))
            self.assertEqual((self.seen.stories(), self.seen[0]), (0, [2]))
        self.assert_as_before()

    def test_the_object_under_its_outer_name(self):
        with self.seen.trial():
            self.seen[0] = 2
            self.seen.paid(2, 100)
            self.assertEqual((self.seen[0], self.seen[2]), ([2], [0]))
        self.assert_as_before()

    def test_errors_leave_the_block(self):
        with self.assertRaises(KeyError):
            with self.seen.trial() as held:
                held[0] = 2
                raise KeyError("told")
        self.assert_as_before()

        def told(held):
            held[1] = 0
            held[9] = 0

        self.assertEqual(raised(self.seen.tried, told), ("BadYears", 9))
        self.assert_as_before()

    def test_nested_blocks(self):
        with self.seen.trial() as held:
            held[0] = 1
            middle = seen_told(held, 3)
            with held.trial() as inner:
                inner.only(2, [])
                with self.seen.trial():
                    self.seen.only(0, [])
                self.assertEqual((inner[0], inner[2]), ([1], []))
            self.assertEqual(seen_told(self.seen, 3), middle)
            held.only(1, [])
            self.assertEqual(held.tried(lambda further: further.stories()), 0)
        self.assert_as_before()

    def test_what_was_known_when_the_block_began(self):
        # What is taken in between `trial` and the block stays known.
        trial = self.seen.trial()
        self.seen[2] = 0
        before = seen_told(self.seen, 3)
        with trial:
            self.seen[0] = 2
        self.assertEqual(seen_told(self.seen, 3), before)

    def test_what_deeds_return(self):
        for told in (None, False, 0, [], "told", (1, 2)):
            def deed(held, told=told):
                held[0] = 0
                return told
            self.assertIs(self.seen.tried(deed), told)
            self.assert_as_before()
        self.assertIsNone(self.seen.tried(lambda held: held.only(0, [1])))
        self.assertEqual(self.seen.tried(lambda held: held is self.seen or seen_told(held, 3) == self.before), True)
        self.assertEqual(self.seen.tried(lambda held: held.tried(lambda further: further.stories())), self.before[0])

    def test_knowledge_that_is_taken_in_behind_a_block(self):
        with self.seen.trial():
            self.seen[0] = 2
        self.seen[0] = 1
        self.assertEqual(self.seen[0], [1])
        self.assertEqual(self.seen[1], [0, 1])

    def test_two_objects_know_nothing_of_each_other(self):
        other = Seen(MILD, 3)
        other.only(1, [0, 1])
        other.paid(3, 130)
        other[0] = 2
        self.assert_as_before()


class SixtyYearsTest(unittest.TestCase):

    def test_sixty_years_are_answered_soon(self):
        began = time.perf_counter()
        source = random.Random(581)
        for scale in [*long_ladders(), random_scale(source, 12, 5)]:
            seen = Seen(scale, 60)
            self.assertEqual(seen.stories(), 12 * 5 ** 60)
            self.assertEqual(sum(seen.fewest()[1]), 0)
            self.assertEqual(sum(seen.most()[1]), 240)
            seen_told(seen, 60)
            story = (source.randrange(12), [source.randrange(5) for _ in range(60)])
            for year, at in enumerate(story_classes(scale, story)):
                if year % 3 == 0:
                    seen[year] = at
                elif year % 3 == 1:
                    seen.paid(year, scale.premium(at))
            self.assertIsNone(seen.clash())
            self.assertGreater(seen.stories(), 0)
            for deed in (seen.fewest, seen.most):
                told = deed()
                self.assertTrue(all(at in seen[year] for year, at in enumerate(story_classes(scale, told))))
            seen_told(seen, 60)
            seen.only(30, [])
            self.assertEqual((seen.stories(), seen.clash()), (0, (30, 30)))
        self.assertLess(time.perf_counter() - began, 3)

    def test_counts_of_independent_years(self):
        # All classes lead to all classes, so the years do not depend on each other.
        scale = Scale([0, 1, 2], [[0, 1, 2]] * 3)
        seen = Seen(scale, 60)
        for year in range(0, 60, 2):
            seen.only(year, [0, 2])
        self.assertEqual(seen.stories(), 2 ** 30 * 3 ** 31)
        self.assertEqual(seen.columns_in(3), [0, 2])
        self.assertEqual(seen.best_year(), (1, 2 ** 30 * 3 ** 30))
        self.assertEqual(sum(seen.most()[1]), 120)


class WrittenTest(unittest.TestCase):

    def test_the_scale_stays_as_it_is(self):
        before = written(MILD)
        seen = Seen(MILD, 4)
        seen[0] = 1
        seen_told(seen, 4)
        self.assertEqual(written(MILD), before)

    def test_all_orders_of_what_is_taken_in(self):
        deeds = [lambda held: held.only(0, [0, 1]), lambda held: held.paid(2, 130), lambda held: held.only(1, [1, 2]),
                 lambda held: held.only(0, [1, 2])]
        found = set()
        for order in itertools.permutations(deeds):
            seen = Seen(MILD, 2)
            for deed in order:
                deed(seen)
            found.add(repr(seen_told(seen, 2)))
        self.assertEqual(len(found), 1)


if __name__ == "__main__":
    unittest.main()
