"""Points 3, 4 and 30 to 33: memory."""

import itertools
import random
import time
import unittest

from claimclasses.memory import (always_forgotten, classes_after, forgotten, is_never_meeting, kept_apart, kept_ring,
                                 meeting_row, never_meeting, uniting_row)
from claimclasses.scales import Scale
from tests.helpers import (HARSH, LARGE, LONELY, MILD, NO_INTEGERS, all_rows, answered, graph, is_row, led,
                           long_ladders, raised, random_row, random_scale, random_scales, steps_to, walked)

TURNED = Scale([1, 2, 3], [[1, 0], [0, 1], [2, 2]])
# Five columns that lead each class to another one: the classes never come together.
APART = Scale([0] * 12, [[(at + step) % 12 for step in range(1, 6)] for at in range(12)])
# One class goes down a step each year, whatever the claims.
SLOW = Scale([0] * 12, [[max(at - 1, 0)] * 5 for at in range(12)])


def turning(classes):
    """A year without claims leads to the next class, round and round; a claim only leads the last one to the first."""
    return Scale([0] * classes, [[(at + 1) % classes, at % (classes - 1) if classes > 1 else 0]
                                 for at in range(classes)])


def small_scales(seed, many, most=4):
    source = random.Random(seed)
    scales = []
    while len(scales) < many:
        classes, columns = source.randint(1, most), source.randint(1, 3)
        tables = [[source.randrange(classes) for _ in range(columns)] for _ in range(classes)]
        if source.random() < 0.3:
            # Each column is a new order of the classes.
            orders = [source.sample(range(classes), classes) for _ in range(columns)]
            tables = [list(leads) for leads in zip(*orders)]
        elif source.random() < 0.3:
            tables = [[source.randint(0, max(at - 1, 0)) for _ in range(columns)] for at in range(classes)]
        scales.append(Scale([source.randint(0, 9) for _ in range(classes)], tables))
    return scales


def behind(scale, at, row):
    return walked(scale, at, scale, at, row)[-1][0]


def places(scale, row):
    """The classes behind a row, whatever the class was before."""
    return sorted({behind(scale, at, row) for at in range(len(scale))})


def is_closed(scale, pairs):
    """Point 32, said once more without the program."""
    classes = range(len(scale))
    for at, by in pairs:
        if at not in classes or by not in classes or at >= by:
            return False
        for claims in range(scale.columns):
            to, then = led(scale, at, claims), led(scale, by, claims)
            if to == then or (min(to, then), max(to, then)) not in pairs:
                return False
    return len(pairs) > 0


class ForgottenTest(unittest.TestCase):

    def test_all_numbers_of_years(self):
        kinds = []
        for scale in [*small_scales(301, 200), *random_scales(302, 40), SLOW, APART, *long_ladders()]:
            for claims in (0, 1, 2, 4, 7, LARGE):
                told = answered(forgotten, scale, claims)
                fitting = [years for years in range(13) if len(places(scale, [claims] * years)) == 1]
                kinds.append(told is None)
                if told is None:
                    self.assertEqual(fitting, [])
                else:
                    self.assertEqual((type(told), told[0]), (tuple, fitting[0]))
                    self.assertEqual([told[1]], places(scale, [claims] * told[0]))
        self.assertGreater(min(kinds.count(True), kinds.count(False)), 100)

    def test_edges(self):
        self.assertEqual([answered(forgotten, MILD), answered(forgotten, MILD, 1)], [(2, 0), (2, 2)])
        self.assertEqual([answered(forgotten, LONELY, claims) for claims in (0, 1, LARGE)], [(0, 0)] * 3)
        self.assertIsNone(answered(forgotten, TURNED))
        self.assertIsNone(answered(forgotten, TURNED, 1))
        self.assertEqual(answered(forgotten, SLOW, 3), (11, 0))
        self.assertIsNone(answered(forgotten, APART))

    def test_no_claims_are_asked_for_if_nothing_is_said(self):
        for scale in small_scales(303, 40):
            self.assertEqual(forgotten(scale), forgotten(scale, 0))
            self.assertEqual(kept_apart(scale), kept_apart(scale, 0))
        self.assertEqual(forgotten(Scale([0, 0], [[1, 0], [1, 0]])), (1, 1))
        self.assertIsNone(kept_apart(Scale([0, 0], [[1, 0], [1, 1]])))
        self.assertIsNotNone(kept_apart(Scale([0, 0], [[0, 1], [1, 1]])))

    def test_claims_beyond_the_last_column(self):
        scale = Scale([0, 0, 0], [[0, 1], [1, 1], [2, 1]])
        for claims in (1, 2, 3, LARGE):
            self.assertEqual(answered(forgotten, scale, claims), (1, 1))
            self.assertIsNone(answered(kept_apart, scale, claims))
        self.assertIsNone(answered(forgotten, scale, 0))


class KeptApartTest(unittest.TestCase):

    def check(self, scale, claims):
        told = answered(kept_apart, scale, claims)
        if told is None:
            self.assertIsNotNone(forgotten(scale, claims))
            return False
        self.assertIsNone(forgotten(scale, claims))
        self.assertEqual((type(told), [type(part) for part in told]), (tuple, [int] * 3))
        at, by, years = told
        self.assertTrue(0 <= at < by < len(scale) and years >= 1)
        row = [claims] * years
        self.assertEqual((behind(scale, at, row), behind(scale, by, row)), (at, by))
        return True

    def test_random_scales(self):
        kinds = []
        for scale in [*small_scales(304, 200), *random_scales(305, 40), SLOW, APART, *long_ladders()]:
            for claims in (0, 1, 3, LARGE):
                kinds.append(self.check(scale, claims))
        self.assertGreater(min(kinds.count(True), kinds.count(False)), 100)

    def test_edges(self):
        self.assertIsNone(answered(kept_apart, LONELY))
        self.assertIsNone(answered(kept_apart, MILD, 1))
        self.assertEqual(answered(kept_apart, TURNED, 1)[2], 1)
        self.assertTrue(self.check(TURNED, 0))
        self.assertTrue(self.check(TURNED, 1))
        self.assertTrue(self.check(APART, LARGE))

    def test_rings_of_unlike_lengths(self):
        # Rings of five and of seven classes; and of three, of four and of five.
        for lengths in ((5, 7), (3, 4, 5), (1, 11), (2, 10), (1, 2)):
            table = []
            for length in lengths:
                first = len(table)
                table.extend([first + (step + 1) % length] for step in range(length))
            self.assertTrue(self.check(Scale([0] * len(table), table), 0))

    def test_two_classes_that_change_places(self):
        scale = Scale([0, 0, 0], [[1], [0], [0]])
        self.assertTrue(self.check(scale, 0))
        self.assertEqual(answered(kept_apart, scale)[:2], (0, 1))
        self.assertEqual(answered(kept_apart, scale)[2] % 2, 0)


class UnitingRowTest(unittest.TestCase):

    def check(self, scale):
        row = answered(uniting_row, scale)
        if row is not None:
            self.assertTrue(is_row(row))
            self.assertEqual(len(places(scale, row)), 1)
        return row

    def test_small_scales_and_all_shorter_rows(self):
        lengths = []
        for scale in small_scales(311, 300):
            row = self.check(scale)
            lengths.append(None if row is None else len(row))
            # Four classes come together within nine years, or never.
            for years in range(min(9 if row is None else len(row), 7)):
                self.assertTrue(all(len(places(scale, other)) > 1 for other in all_rows(scale.columns, years)))
            meeting = [meeting_row(scale, at, by) for at in range(len(scale)) for by in range(at)]
            self.assertEqual(row is None, None in meeting)
        self.assertGreater(lengths.count(None), 50)
        for length in range(4):
            self.assertGreater(lengths.count(length), 3)

    def test_edges(self):
        self.assertEqual(answered(uniting_row, LONELY), [])
        self.assertEqual(len(answered(uniting_row, HARSH)), 1)
        self.assertEqual(len(answered(uniting_row, MILD)), 2)
        self.assertIsNone(answered(uniting_row, TURNED))
        self.assertIsNone(answered(uniting_row, APART))
        self.assertEqual(len(answered(uniting_row, SLOW)), 11)

    def test_long_rows(self):
        # It is known how long these rows are: the square of one less than the number of classes.
        for classes in (1, 2, 3, 4, 5, 8, 12):
            self.assertEqual(len(self.check(turning(classes))), (classes - 1) ** 2)

    def test_random_scales(self):
        source = random.Random(314)
        for classes in (5, 6, 7, 8, 12):
            for _ in range(8):
                scale = random_scale(source, classes, source.randint(1, 2))
                row = self.check(scale)
                years = steps_to(
                    lambda held: [tuple(sorted({led(scale, at, k) for at in held})) for k in range(scale.columns)],
                    tuple(range(classes)), lambda held: len(held) == 1)
                self.assertEqual(None if row is None else len(row), years)

    def test_the_column_that_is_needed(self):
        for column in range(5):
            scale = Scale([0] * 4, [[0 if k == column else (at + k) % 4 for k in range(5)] for at in range(4)])
            self.assertEqual(len(self.check(scale)), 1)
            self.assertEqual(min(uniting_row(scale)[0], 4), column)


class MeetingRowTest(unittest.TestCase):

    def test_small_scales_and_all_shorter_rows(self):
        lengths = []
        for scale in [*small_scales(312, 100), *random_scales(313, 6), turning(5), turning(12), APART]:
            for at, by in itertools.product(range(len(scale)), repeat=2):
                row = answered(meeting_row, scale, at, by)
                lengths.append(None if row is None else len(row))
                if row is None:
                    self.assertTrue(all(to != then for to, then in graph(scale, at, scale, by)))
                else:
                    self.assertTrue(is_row(row))
                    self.assertEqual(behind(scale, at, row), behind(scale, by, row))
                leads = graph(scale, at, scale, by)
                self.assertEqual(lengths[-1], steps_to(leads.get, (at, by), lambda pair: pair[0] == pair[1]))
                for years in range(min(lengths[-1] or 0, 4)):
                    for other in all_rows(scale.columns, years):
                        self.assertNotEqual(behind(scale, at, other), behind(scale, by, other))
        self.assertGreater(lengths.count(None), 50)
        for length in range(4):
            self.assertGreater(lengths.count(length), 3)

    def test_edges(self):
        self.assertEqual([answered(meeting_row, TURNED, at, at) for at in range(3)], [[], [], []])
        self.assertEqual(answered(meeting_row, LONELY, 0, 0), [])
        self.assertIsNone(answered(meeting_row, TURNED, 0, 1))
        self.assertIsNone(answered(meeting_row, TURNED, 2, 1))
        self.assertEqual(len(answered(meeting_row, SLOW, 11, 0)), 11)
        self.assertEqual(len(answered(meeting_row, SLOW, 4, 5)), 5)

    def test_errors(self):
        for bad in (-1, 3, LARGE, -LARGE, *NO_INTEGERS):
            self.assertEqual(raised(meeting_row, MILD, bad, 0), ("NoClass", bad), bad)
            self.assertEqual(raised(meeting_row, MILD, 0, bad), ("NoClass", bad), bad)
            self.assertEqual(raised(meeting_row, MILD, bad, 17), ("NoClass", bad), bad)
            self.assertEqual(raised(meeting_row, MILD, 17, bad), ("NoClass", 17), bad)


class NeverMeetingTest(unittest.TestCase):

    def test_small_scales(self):
        kinds = []
        for scale in [*small_scales(321, 200), *random_scales(322, 20), APART, SLOW, turning(12), *long_ladders()]:
            told = answered(never_meeting, scale)
            kinds.append(told is None)
            self.assertEqual(told is None, uniting_row(scale) is not None)
            if told is not None:
                self.assertIsInstance(told, list)
                self.assertTrue(all(type(pair) is tuple and len(pair) == 2 for pair in told))
                self.assertTrue(is_closed(scale, told))
                self.assertIs(answered(is_never_meeting, scale, told), True)
                self.assertTrue(all(meeting_row(scale, at, by) is None for at, by in told))
        self.assertGreater(min(kinds.count(True), kinds.count(False)), 50)

    def test_edges(self):
        self.assertIsNone(answered(never_meeting, LONELY))
        self.assertIsNone(answered(never_meeting, MILD))
        self.assertIsNone(answered(never_meeting, HARSH))
        self.assertTrue(answered(never_meeting, TURNED))

    def test_all_lists_of_pairs(self):
        kinds = []
        for scale in [*small_scales(323, 60, most=3), TURNED, MILD, HARSH]:
            every = list(itertools.product(range(-1, len(scale) + 1), repeat=2))
            sensible = [(at, by) for at, by in every if 0 <= at < by < len(scale)]
            for many in range(len(sensible) + 1):
                for pairs in itertools.permutations(sensible, many):
                    kinds.append(answered(is_never_meeting, scale, list(pairs)))
                    self.assertIs(kinds[-1], is_closed(scale, pairs))
            for pair in every:
                for pairs in ([pair], [*sensible, pair], [pair, *sensible]):
                    self.assertIs(answered(is_never_meeting, scale, pairs), is_closed(scale, pairs))
        self.assertGreater(min(kinds.count(True), kinds.count(False)), 50)

    def test_lists_that_show_nothing(self):
        self.assertIs(answered(is_never_meeting, TURNED, []), False)
        self.assertIs(answered(is_never_meeting, TURNED, [(0, 1)]), True)
        self.assertIs(answered(is_never_meeting, TURNED, [(1, 0)]), False)
        self.assertIs(answered(is_never_meeting, TURNED, [(0, 2)]), False)
        self.assertIs(answered(is_never_meeting, TURNED, [(1, 2), (0, 2)]), True)
        self.assertIs(answered(is_never_meeting, TURNED, [(1, 2), (0, 2), (0, 1)]), True)
        for pair in ((0, 0), (1, 1), (2, 1), (-1, 0), (-2, -1), (0, 3), (1, 3), (3, 4), (0, LARGE), (-LARGE, 0)):
            self.assertIs(answered(is_never_meeting, TURNED, [pair]), False)
            self.assertIs(answered(is_never_meeting, TURNED, [(0, 1), pair]), False)

    def test_all_columns_count(self):
        # One number of claims alone brings the two classes together.
        for column in range(5):
            scale = Scale([0, 0], [[0] * 5, [0 if k == column else 1 for k in range(5)]])
            self.assertIs(answered(is_never_meeting, scale, [(0, 1)]), False)
            self.assertIsNone(answered(never_meeting, scale))
            # One alone leads to a pair of which the list knows nothing.
            scale = Scale([0] * 3, [[0] * 5, [2 if k == column else 1 for k in range(5)], [2] * 5])
            self.assertIs(answered(is_never_meeting, scale, [(0, 1)]), False)
            self.assertIs(answered(is_never_meeting, scale, [(0, 1), (0, 2)]), True)


class AlwaysForgottenTest(unittest.TestCase):

    def test_small_scales_and_all_rows(self):
        found = []
        for scale in small_scales(331, 300):
            years = answered(always_forgotten, scale)
            found.append(years)
            if years is not None:
                self.assertIs(type(years), int)
                self.assertTrue(all(len(places(scale, row)) == 1 for row in all_rows(scale.columns, years)))
                if years > 0:
                    self.assertTrue(any(len(places(scale, row)) > 1 for row in all_rows(scale.columns, years - 1)))
        self.assertGreater(found.count(None), 50)
        for years in range(4):
            self.assertGreater(found.count(years), 3)

    def test_edges(self):
        self.assertEqual(answered(always_forgotten, LONELY), 0)
        self.assertEqual(answered(always_forgotten, HARSH), 1)
        self.assertIsNone(answered(always_forgotten, MILD))
        self.assertIsNone(answered(always_forgotten, TURNED))
        self.assertIsNone(answered(always_forgotten, APART))
        self.assertEqual(answered(always_forgotten, SLOW), 11)
        # Two rows bring all classes together, one keeps them apart.
        self.assertIsNone(answered(always_forgotten, Scale([0, 0], [[0, 1, 0], [0, 1, 1]])))


class KeptRingTest(unittest.TestCase):

    def test_random_scales(self):
        kinds = []
        for scale in [*small_scales(332, 200), *random_scales(333, 40), LONELY, HARSH, MILD, TURNED, APART, SLOW,
                      turning(12), *long_ladders()]:
            told = answered(kept_ring, scale)
            kinds.append(told is None)
            self.assertEqual(told is None, always_forgotten(scale) is not None)
            if told is not None:
                self.assertEqual((type(told), len(told)), (tuple, 3))
                at, by, ring = told
                self.assertTrue(0 <= at < len(scale) and 0 <= by < len(scale) and at != by)
                self.assertTrue(is_row(ring) and len(ring) > 0)
                self.assertEqual((behind(scale, at, ring), behind(scale, by, ring)), (at, by))
        self.assertGreater(min(kinds.count(True), kinds.count(False)), 50)

    def test_two_classes_that_change_places(self):
        at, by, ring = answered(kept_ring, Scale([0, 0], [[1], [0]]))
        self.assertEqual((sorted([at, by]), len(ring) % 2), ([0, 1], 0))

    def test_a_ring_behind_other_pairs(self):
        # Only the last two classes are kept apart again and again, and only by years with two claims or more.
        table = [[0, 0, 10] for _ in range(10)] + [[0, 0, 11], [0, 0, 10]]
        at, by, ring = answered(kept_ring, Scale([0] * 12, table))
        self.assertEqual((sorted([at, by]), {min(claims, 2) for claims in ring}), ([10, 11], {2}))


class ClassesAfterTest(unittest.TestCase):

    def test_random_rows(self):
        source = random.Random(334)
        for scale in [*small_scales(335, 60), *random_scales(336, 60)]:
            row = random_row(source)
            self.assertEqual(answered(classes_after, scale, row), places(scale, row))

    def test_edges(self):
        self.assertEqual(answered(classes_after, MILD, []), [0, 1, 2])
        self.assertEqual(answered(classes_after, MILD, [1, 0]), [0, 1])
        self.assertEqual(answered(classes_after, MILD, [LARGE]), [1, 2])
        self.assertEqual(answered(classes_after, MILD, [LARGE, 1]), [2])
        self.assertEqual(answered(classes_after, LONELY, [0, 5]), [0])
        self.assertEqual(answered(classes_after, APART, [4] * 1000), list(range(12)))
        self.assertEqual(answered(classes_after, MILD, [0] * 1000 + [1]), [1])


class ErrorsTest(unittest.TestCase):

    def test_claims(self):
        for deed in (forgotten, kept_apart):
            for bad in (-1, -LARGE, *NO_INTEGERS):
                self.assertEqual(raised(deed, MILD, bad), ("BadClaims", bad), deed)
                self.assertEqual(raised(deed, TURNED, bad), ("BadClaims", bad), deed)
                self.assertEqual(raised(deed, LONELY, bad), ("BadClaims", bad), deed)

    def test_rows(self):
        for bad in (-1, -LARGE, *NO_INTEGERS):
            self.assertEqual(raised(classes_after, MILD, [bad]), ("BadClaims", bad), bad)
            self.assertEqual(raised(classes_after, MILD, [0, LARGE, bad, -5]), ("BadClaims", bad), bad)
            self.assertEqual(raised(classes_after, LONELY, [bad, True]), ("BadClaims", bad), bad)


class LargeScalesTest(unittest.TestCase):

    def test_large_scales_are_answered_soon(self):
        began = time.perf_counter()
        source = random.Random(337)
        for scale in [*long_ladders(), APART, SLOW, turning(12), random_scale(source, 12, 5)]:
            for deed in (forgotten, kept_apart, uniting_row, never_meeting, always_forgotten, kept_ring):
                deed(scale)
            meeting_row(scale, 0, 11)
            is_never_meeting(scale, [(at, by) for by in range(12) for at in range(by)])
            classes_after(scale, [0, 1, 2, 3, 4] * 50)
        self.assertLess(time.perf_counter() - began, 15)


if __name__ == "__main__":
    unittest.main()
