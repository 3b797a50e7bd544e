"""Points 3, 4 and 34 to 38: one claim more."""

import random
import time
import unittest

from claimclasses.fairness import fair_pairs, is_fair_pairs, order_ring, ranks, unfair_sum, unfair_year, worse
from claimclasses.pairs import excess
from claimclasses.scales import Scale
from tests.helpers import (DEAREST, HARSH, LARGE, LONELY, MILD, amount_told, answered, graph, is_row, led,
                           long_ladders, most_amount, random_scale, steps_to, walked)

ODD = Scale([50, 90, 40], [[0, 1], [0, 2], [0, 2]])
# One claim in the first class leads to one of two classes that are worse than each other.
RING = Scale([0, 1, 2], [[1, 2], [2, 2], [1, 1]])


def parted(scale):
    """Point 34: the classes and numbers of claims, and where one claim more and just so many lead."""
    return [(at, claims, led(scale, at, claims + 1), led(scale, at, claims))
            for at in range(len(scale)) for claims in range(scale.columns - 1)]


def later(scale):
    """All pairs (more, fewer) of later years, each with those to which one year leads."""
    found = {}
    for _, _, more, fewer in parted(scale):
        found.update(graph(scale, more, scale, fewer))
    return found


def years_to_less(scale):
    """The least number of years behind which the first policy is billed less, or None."""
    premiums = scale.premiums()
    leads = later(scale)
    found = [steps_to(leads.get, (more, fewer), lambda pair: premiums[pair[0]] < premiums[pair[1]])
             for _, _, more, fewer in parted(scale)]
    return min([years for years in found if years is not None], default=None)


def are_fair(scale, pairs):
    """Point 35, said once more without the program."""
    classes = range(len(scale))
    if any((more, fewer) not in pairs for _, _, more, fewer in parted(scale)):
        return False
    for more, fewer in pairs:
        if more not in classes or fewer not in classes or scale.premiums()[more] < scale.premiums()[fewer]:
            return False
        if any((led(scale, more, k), led(scale, fewer, k)) not in pairs for k in range(scale.columns)):
            return False
    return True


def worse_by_sentences(scale):
    """Point 37: the three sentences, each applied to all that followed so far, until nothing new follows."""
    found = {(more, fewer) for _, _, more, fewer in parted(scale)}
    while True:
        further = {(led(scale, at, k), led(scale, by, k)) for at, by in found for k in range(scale.columns)}
        further |= {(at, by) for at, left in found for right, by in found if left == right}
        if further <= found:
            return sorted(pair for pair in found if pair[0] != pair[1])
        found |= further


def small_scales(seed, many):
    """Small scales of all kinds: with premiums that rise or not, and with claims that lead up or anywhere."""
    source = random.Random(seed)
    scales = []
    for _ in range(many):
        classes, columns = source.randint(1, 4), source.choice([1, 2, 2, 3, 3, 4, 5])
        premiums = [source.randint(0, source.choice([1, 3, 9])) for _ in range(classes)]
        table = [[source.randrange(classes) for _ in range(columns)] for _ in range(classes)]
        if source.random() < 0.6:
            table = [sorted(leads) for leads in table]
        if source.random() < 0.4:
            table = [list(leads) for leads in zip(*[sorted(leads) for leads in zip(*table)])]
        if source.random() < 0.5:
            premiums = sorted(premiums)
        scales.append(Scale(premiums, table))
    return scales


def larger_scales(seed, many):
    source = random.Random(seed)
    scales = [random_scale(source, source.randint(5, 12)) for _ in range(many)]
    return [*scales, *long_ladders(), *[Scale(sorted(scale.premiums()), [sorted(leads) for leads in scale.table()])
                                        for scale in scales]]


class UnfairYearTest(unittest.TestCase):

    def check(self, scale):
        """Looks at what is told by a walk year by year; returns the number of years, or None."""
        told = answered(unfair_year, scale)
        least = years_to_less(scale)
        if told is None:
            self.assertIsNone(least)
            return None
        self.assertEqual((type(told), len(told)), (tuple, 3))
        at, claims, row = told
        self.assertTrue(type(at) is int and type(claims) is int and is_row(row))
        self.assertTrue(0 <= at < len(scale) and 0 <= claims <= scale.columns - 2)
        more, fewer = walked(scale, led(scale, at, claims + 1), scale, led(scale, at, claims), row)[-1]
        self.assertLess(scale.premiums()[more], scale.premiums()[fewer])
        self.assertEqual(len(row), least)
        return least

    def test_small_scales(self):
        found = [self.check(scale) for scale in small_scales(341, 400)]
        for years in (None, 0, 1):
            self.assertGreater(found.count(years), 30)
        self.assertGreater(found.count(2), 0)

    def test_larger_scales(self):
        found = [self.check(scale) for scale in larger_scales(342, 30)]
        self.assertIn(None, found)

    def test_edges(self):
        self.assertIsNone(self.check(MILD))
        self.assertIsNone(self.check(HARSH))
        self.assertEqual(answered(unfair_year, ODD)[1:], (0, []))
        # With one class, or with one column, one claim more changes nothing.
        for scale in (LONELY, DEAREST, Scale([7], [[0] * 5]), Scale([9, 1, 5], [[1], [2], [0]])):
            self.assertIsNone(self.check(scale))

    def test_equal_premiums_are_fair(self):
        self.assertIsNone(self.check(Scale([5, 5, 5], [[2, 0, 1], [1, 2, 0], [0, 1, 2]])))

    def test_each_number_of_claims_counts(self):
        # Only the step from so many claims to one more leads to a class that is billed less.
        for claims in range(4):
            leads = [1 if k <= claims else 0 for k in range(5)]
            scale = Scale([1, 2], [leads, [1] * 5])
            self.assertEqual(answered(unfair_year, scale), (0, claims, []))

    def test_a_year_long_after(self):
        # Behind one claim more the policy goes down a chain of equal premiums, at whose end it is billed less.
        table = [[5, 1], [2, 2], [3, 3], [4, 4], [4, 4], [5, 5]]
        scale = Scale([5, 5, 5, 5, 4, 5], table)
        self.assertEqual(self.check(scale), 3)
        self.assertEqual(answered(unfair_year, scale)[:2], (0, 0))

    def test_premiums_of_the_year_itself_do_not_count(self):
        # The class in which the two policies part is that of both.
        self.assertIsNone(self.check(Scale([0, 1000000], [[0, 1], [0, 1]])))
        self.assertEqual(self.check(Scale([1000000, 0], [[0, 1], [0, 1]])), 0)


class FairPairsTest(unittest.TestCase):

    def test_small_scales(self):
        kinds = []
        for scale in [*small_scales(351, 300), *larger_scales(352, 20)]:
            found = answered(fair_pairs, scale)
            kinds.append(found is None)
            self.assertEqual(found is None, years_to_less(scale) is not None)
            if found is not None:
                self.assertIs(type(found), list)
                self.assertTrue(all(type(pair) is tuple and len(pair) == 2 for pair in found))
                self.assertTrue(are_fair(scale, found))
                self.assertIs(answered(is_fair_pairs, scale, found), True)
                self.assertIs(answered(is_fair_pairs, scale, found[::-1]), True)
        self.assertGreater(min(kinds.count(True), kinds.count(False)), 50)

    def test_lists_that_were_changed_a_little(self):
        source = random.Random(353)
        found = []
        for scale in small_scales(354, 200):
            pairs = fair_pairs(scale)
            if pairs is not None:
                for _ in range(6):
                    changed = list(pairs)
                    if changed and source.random() < 0.7:
                        changed.remove(source.choice(changed))
                    if source.random() < 0.7:
                        changed.append((source.randint(-1, len(scale)), source.randint(-1, len(scale))))
                    found.append(answered(is_fair_pairs, scale, changed))
                    self.assertIs(found[-1], are_fair(scale, changed))
        self.assertGreater(min(found.count(True), found.count(False)), 50)

    def test_all_lists_of_pairs_of_a_scale(self):
        everything = [(at, by) for at in range(3) for by in range(3)]
        for scale in (MILD, ODD, RING, Scale([1, 1, 1], [[2, 0], [1, 2], [0, 1]])):
            for number in range(512):
                chosen = [pair for place, pair in enumerate(everything) if number >> place & 1]
                self.assertIs(is_fair_pairs(scale, chosen), are_fair(scale, chosen))

    def test_pairs_of_no_classes(self):
        for pair in ((3, 0), (0, 3), (-1, -1), (-1, 0), (LARGE, 0), (2, -LARGE), (LARGE, LARGE)):
            self.assertIs(answered(is_fair_pairs, MILD, [*fair_pairs(MILD), pair]), False)
            self.assertIs(answered(is_fair_pairs, LONELY, [pair]), False)

    def test_no_pairs(self):
        # With one column there is no number of claims for which a pair is needed.
        self.assertIs(answered(is_fair_pairs, LONELY, []), True)
        self.assertIs(answered(is_fair_pairs, Scale([9, 1], [[1], [0]]), []), True)
        self.assertIs(answered(is_fair_pairs, MILD, []), False)
        self.assertIs(answered(is_fair_pairs, Scale([1], [[0, 0]]), []), False)
        self.assertIs(answered(is_fair_pairs, Scale([1], [[0, 0]]), [(0, 0)]), True)

    def test_one_number_of_claims_that_leads_out_of_the_list(self):
        for column in range(5):
            # Class 3 is reached from class 1 alone, by this number of claims.
            table = [[0, 1, 1, 1, 1], [3 if k == column else 1 for k in range(5)], [0] * 5, [3] * 5]
            scale = Scale([0, 5, 0, 5], table)
            pairs = fair_pairs(scale)
            self.assertIs(is_fair_pairs(scale, pairs), True)
            for pair in pairs:
                fewer = [other for other in pairs if other != pair]
                self.assertIs(is_fair_pairs(scale, fewer), are_fair(scale, fewer))


class UnfairSumTest(unittest.TestCase):

    def check(self, scale):
        told = answered(unfair_sum, scale)
        for at, claims, more, fewer in parted(scale):
            amount = most_amount(scale, fewer, scale, more)
            if amount != 0:
                self.assertEqual((type(told), len(told), told[:2]), (tuple, 3, (at, claims)))
                self.assertEqual(amount_told(told[2], scale, fewer, scale, more), amount)
                return told[2][0]
        self.assertIsNone(told)
        return None

    def test_small_scales(self):
        found = [self.check(scale) for scale in small_scales(361, 300)]
        for kind in (None, "most", "endless"):
            self.assertGreater(found.count(kind), 10)

    def test_larger_scales(self):
        for scale in larger_scales(362, 10):
            told = answered(unfair_sum, scale)
            for at, claims, more, fewer in parted(scale):
                if told is not None and (at, claims) == told[:2]:
                    amount = amount_told(told[2], scale, fewer, scale, more)
                    self.assertNotEqual(amount, 0)
                    self.assertEqual(amount, amount_told(excess(scale, fewer, scale, more), scale, fewer, scale, more))
                    break
                self.assertEqual(excess(scale, fewer, scale, more)[:2], ("most", 0))

    def test_edges(self):
        self.assertIsNone(self.check(MILD))
        self.assertEqual(answered(unfair_sum, ODD)[:2], (0, 0))
        self.assertEqual(answered(unfair_sum, ODD)[2][:2], ("most", 10))
        for scale in (LONELY, DEAREST, Scale([7], [[0] * 5]), Scale([9, 1, 5], [[1], [2], [0]])):
            self.assertIsNone(self.check(scale))

    def test_less_in_a_year_and_more_in_all_years_together(self):
        # The dear year comes first, and the cheap one never takes back as much.
        scale = Scale([5, 9, 1, 5], [[3, 1], [2, 2], [3, 3], [3, 3]])
        self.assertIsNotNone(unfair_year(scale))
        self.assertIsNone(self.check(scale))

    def test_a_gain_without_end_behind_a_great_loss(self):
        # Each year behind the first one is cheaper by 1, but the first one alone is dearer by 1000000.
        scale = Scale([0, 1000000, 4, 5], [[3, 1], [2, 2], [2, 2], [3, 3]])
        self.assertEqual(self.check(scale), "endless")

    def test_the_least_class_and_number_are_told(self):
        # Class 0 and the first numbers of class 1 are fair; class 2 is not either.
        table = [[0, 0, 0, 0, 0], [2, 2, 2, 2, 0], [2, 0, 0, 0, 0]]
        scale = Scale([1, 0, 2], table)
        self.assertEqual(answered(unfair_sum, scale)[:2], (1, 3))
        scale = Scale([1, 0, 2], [table[0], [0, 0, 0, 0, 0], table[2]])
        self.assertEqual(answered(unfair_sum, scale)[:2], (2, 0))


class WorseTest(unittest.TestCase):

    def test_sentences(self):
        rings = []
        for scale in [*small_scales(371, 300), *larger_scales(372, 12), MILD, HARSH, ODD, RING, LONELY]:
            found = answered(worse, scale)
            self.assertEqual(found, worse_by_sentences(scale))
            self.assertTrue(all(type(pair) is tuple for pair in found))
            # Point 37: the premiums of these pairs tell whether one claim more is ever billed less.
            self.assertEqual(unfair_year(scale) is None,
                             all(scale.premium(more) >= scale.premium(fewer) for more, fewer in found))
            rings.append(self.check_order(scale, found))
        self.assertGreater(min(rings.count(True), rings.count(False)), 50)

    def check_order(self, scale, found):
        told, places = answered(order_ring, scale), answered(ranks, scale)
        self.assertEqual(told is None, places is not None)
        if told is not None:
            self.assertEqual((type(told), len(told)), (tuple, 2))
            at, by = told
            self.assertTrue(at != by and (at, by) in found and (by, at) in found)
            return True
        self.assertEqual(places, [sum(more == at for more, _ in found) for at in range(len(scale))])
        self.assertTrue(all(places[more] > places[fewer] for more, fewer in found))
        self.assertFalse(any((fewer, more) in found for more, fewer in found))
        return False

    def test_edges(self):
        self.assertEqual(answered(worse, MILD), [(1, 0), (2, 0), (2, 1)])
        self.assertEqual(answered(ranks, MILD), [0, 1, 2])
        self.assertIsNone(answered(order_ring, ODD))
        self.assertEqual(sorted(answered(order_ring, RING)), [1, 2])
        self.assertIsNone(answered(ranks, RING))
        for scale in (LONELY, DEAREST, Scale([7], [[0] * 5])):
            self.assertEqual([answered(worse, scale), answered(order_ring, scale), answered(ranks, scale)],
                             [[], None, [0]])
        self.assertEqual(answered(ranks, Scale([0] * 12, [[0]] * 12)), [0] * 12)

    def test_sentences_one_behind_the_other(self):
        # From class 0, 1 is worse than 2; from class 3, 2 is worse than 4; so 1 is worse than 4, too.
        scale = Scale([0] * 5, [[2, 1], [1, 1], [2, 2], [4, 2], [4, 4]])
        self.assertEqual(answered(worse, scale), [(1, 2), (1, 4), (2, 4)])
        self.assertEqual(answered(ranks, scale), [0, 2, 1, 0, 0])

    def test_a_long_ring(self):
        # Each class is worse than the next one, and so than all others.
        scale = Scale([0] * 12, [[(at + 1) % 12, at] for at in range(12)])
        self.assertEqual(answered(worse, scale), [(at, by) for at in range(12) for by in range(12) if at != by])
        self.assertIsNone(answered(ranks, scale))

    def test_a_long_chain(self):
        for columns in (2, 5):
            scale = Scale([0] * 12, [[max(at - 1, 0)] + [min(at + k, 11) for k in range(1, columns)]
                                     for at in range(12)])
            self.assertEqual(answered(worse, scale), [(at, by) for at in range(12) for by in range(at)])
            self.assertEqual(answered(ranks, scale), list(range(12)))


class LargeScalesTest(unittest.TestCase):

    def test_large_scales_are_answered_soon(self):
        began = time.perf_counter()
        source = random.Random(381)
        for scale in [*long_ladders(), *[random_scale(source, 12, 5) for _ in range(4)]]:
            for deed in (unfair_year, fair_pairs, unfair_sum, worse, order_ring, ranks):
                deed(scale)
            is_fair_pairs(scale, [(at, by) for at in range(12) for by in range(12)])
        self.assertLess(time.perf_counter() - began, 15)


if __name__ == "__main__":
    unittest.main()
