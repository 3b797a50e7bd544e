"""Points 3, 4 and 61 to 66: policies."""

import random
import time
import unittest

from claimclasses.changing import Houses
from claimclasses.policies import Policy
from claimclasses.scales import Scale
from tests.helpers import (HARSH, LARGE, LONELY, MILD, NO_INTEGERS, OwnPolicy, all_places, answered, own_told,
                           policy_told, raised, random_houses, random_scale, random_ways, written)

WAYS = {(0, 1): ([0, 0, 1], 5), (1, 0): ([0, 2], 5)}
HOUSES = Houses([MILD, HARSH], WAYS)
ONE_WAY = Houses([MILD, HARSH], {(0, 1): ([0, 0, 1], 7)})
NO_YEARS = (-1, 1000, LARGE, -LARGE, *NO_INTEGERS)
NO_PLACES = (*NO_INTEGERS, 0, [0, 0], (0,), (0, 0, 0), (-1, 0), (2, 0), (0, 3), (1, 2), (0, -1), (True, 0), (0, False),
             (None, 0), ([], 0), (0, [0]), "00")


def random_policy(source):
    """A policy of some houses, and one that says the same without the program."""
    scales, ways = random_houses(source)
    if source.random() < 0.7:
        scales = [random_scale(source, source.randint(2, 4), source.randint(2, 3), 9) for _ in range(3)]
        ways = random_ways(source, scales, source.choice([0.5, 0.8]))
    place = source.choice(all_places(scales))
    return Policy(Houses(scales, ways), place), OwnPolicy(scales, ways, place)


def change_both(case, source, policy, own, last):
    """Some deed on both, with the same outcome; errors included."""
    year = source.randint(0, last)
    kind = source.randrange(6)
    if kind < 2:
        claims = source.choice([0, 0, 1, 2, LARGE])
        policy[year] = claims
        own.claims[year] = claims
    elif kind < 4:
        house = source.randrange(len(own.scales))
        tried = own.copy()
        tried.choices[year] = house
        change_choice(case, lambda: policy.change(year, house), own, tried)
    elif kind == 4:
        tried = own.copy()
        tried.choices.pop(year, None)
        change_choice(case, lambda: policy.stay(year), own, tried)
    elif year < own.billed():
        case.assertEqual(raised(policy.bill, year), ("Billed", own.billed() - 1))
    else:
        case.assertEqual(policy.bill(year), own.bill(year))


def change_choice(case, deed, own, tried):
    if tried.years(30) is None:
        case.assertEqual(raised(deed), ("BadPlan",))
    else:
        case.assertIsNone(deed())
        own.choices = tried.choices


class PolicyTest(unittest.TestCase):

    def test_random_deeds(self):
        source = random.Random(611)
        bills = corrections = refused = 0
        for _ in range(400):
            policy, own = random_policy(source)
            for _ in range(source.randint(0, 25)):
                choices = len(own.choices)
                change_both(self, source, policy, own, 9)
                refused += len(own.choices) == choices
            self.assertEqual(policy_told(policy, 12), own_told(own, 12))
            bills += len(own.bills)
            corrections += sum(owed != 0 for _, _, owed in own.bills)
        self.assertGreater(bills, 100)
        self.assertGreater(corrections, 30)
        self.assertGreater(refused, 100)

    def test_a_new_policy(self):
        policy = Policy(HOUSES, (0, 2))
        self.assertEqual([policy[year] for year in (0, 1, 999)], [0, 0, 0])
        self.assertEqual([policy.place_in(year) for year in (0, 1, 2, 999)], [(0, 2), (0, 1), (0, 0), (0, 0)])
        self.assertEqual([policy.cost(year) for year in (0, 1, 2, 999)], [160, 130, 100, 100])
        self.assertEqual([policy.total(years) for years in (0, 1, 2, 3, 1000)], [0, 160, 290, 390, 100090])
        self.assertEqual((policy.bills_sent(), policy.owed()), ([], 0))

    def test_claims(self):
        policy = Policy(HOUSES, (0, 0))
        policy[3] = 1
        policy[4] = LARGE
        policy[999] = 2
        self.assertEqual([policy[year] for year in (2, 3, 4, 5, 999)], [0, 1, LARGE, 0, 2])
        self.assertEqual([policy.place_in(year) for year in (3, 4, 5, 6, 7)], [(0, 0), (0, 1), (0, 2), (0, 1), (0, 0)])
        policy[3] = 0
        self.assertEqual([policy.place_in(year) for year in (3, 4, 5, 6, 7)], [(0, 0), (0, 0), (0, 1), (0, 0), (0, 0)])
        policy[4] = 0
        self.assertEqual(policy.total(1000), 100000)

    def test_bad_places(self):
        for bad in NO_PLACES:
            self.assertEqual(raised(Policy, HOUSES, bad), ("NoPlace", bad), bad)

    def test_bad_years(self):
        policy = Policy(HOUSES, (0, 0))
        for bad in NO_YEARS:
            self.assertEqual(raised(lambda year: policy[year], bad), ("BadYears", bad), bad)
            self.assertEqual(raised(policy.__setitem__, bad, -1), ("BadYears", bad), bad)
            for deed in (policy.place_in, policy.cost, policy.bill, policy.stay):
                self.assertEqual(raised(deed, bad), ("BadYears", bad), bad)
            self.assertEqual(raised(policy.change, bad, 7), ("BadYears", bad), bad)
            self.assertEqual(raised(policy.back_worth, bad, -1), ("BadYears", bad), bad)
        for bad in (-1, 1001, LARGE, -LARGE, *NO_INTEGERS):
            self.assertEqual(raised(policy.total, bad), ("BadYears", bad), bad)
        self.assertEqual(policy_told(policy, 5), policy_told(Policy(HOUSES, (0, 0)), 5))

    def test_bad_claims(self):
        policy = Policy(HOUSES, (0, 0))
        policy[3] = 1
        for bad in (-1, -LARGE, *NO_INTEGERS):
            self.assertEqual(raised(policy.__setitem__, 3, bad), ("BadClaims", bad), bad)
            self.assertEqual(policy[3], 1)

    def test_years_are_not_gone_through(self):
        with self.assertRaises(TypeError):
            iter(Policy(HOUSES, (0, 0)))


class ChangeTest(unittest.TestCase):

    def test_changes(self):
        policy = Policy(HOUSES, (0, 2))
        self.assertIsNone(policy.change(0, 1))
        self.assertEqual([policy.place_in(0), policy.cost(0), policy.place_in(1), policy.cost(1)],
                         [(1, 1), 205, (1, 0), 90])
        # The policy stays there until it changes again.
        policy.change(3, 0)
        self.assertEqual([policy.place_in(2), policy.place_in(3), policy.cost(3)], [(1, 0), (0, 0), 105])
        # A later choice for the same year takes the place of the earlier one.
        policy.change(3, 1)
        self.assertEqual([policy.place_in(3), policy.cost(3), policy.total(4)], [(1, 0), 90, 205 + 270])
        self.assertIsNone(policy.stay(0))
        # The choice for year 3 stands and has its fee again.
        self.assertEqual([policy.place_in(2), policy.place_in(3), policy.cost(3)], [(0, 0), (1, 0), 95])
        self.assertIsNone(policy.stay(3))
        self.assertIsNone(policy.stay(3))
        self.assertIsNone(policy.stay(500))
        self.assertEqual(policy.place_in(3), (0, 0))

    def test_a_choice_of_the_house_where_it_is(self):
        policy = Policy(HOUSES, (0, 0))
        policy.change(5, 0)
        self.assertEqual([policy.cost(5), policy.place_in(5)], [100, (0, 0)])
        # If it is elsewhere then, the choice leads it back.
        policy.change(2, 1)
        self.assertEqual([policy.place_in(4), policy.place_in(5), policy.cost(5)], [(1, 0), (0, 0), 105])
        policy.stay(5)
        self.assertEqual(policy.place_in(5), (1, 0))

    def test_no_way(self):
        policy = Policy(ONE_WAY, (1, 0))
        self.assertEqual(raised(policy.change, 4, 0), ("BadPlan",))
        self.assertIsNone(policy.change(4, 1))
        policy = Policy(ONE_WAY, (0, 0))
        policy.change(4, 0)
        # In year 4 it could not come back.
        self.assertEqual(raised(policy.change, 3, 1), ("BadPlan",))
        self.assertEqual(raised(policy.change, 0, 1), ("BadPlan",))
        self.assertEqual(policy.place_in(3), (0, 0))
        self.assertIsNone(policy.change(5, 1))
        self.assertIsNone(policy.change(4, 1))
        self.assertEqual(policy.cost(5), 90)

    def test_to_stay_may_leave_no_way(self):
        # From house 0 there is a way to house 1 only, and from there to house 2.
        houses = Houses([LONELY, LONELY, LONELY], {(0, 1): ([0], 1), (1, 2): ([0], 2)})
        policy = Policy(houses, (0, 0))
        self.assertEqual(raised(policy.change, 7, 2), ("BadPlan",))
        policy.change(3, 1)
        policy.change(7, 2)
        self.assertEqual(raised(policy.stay, 3), ("BadPlan",))
        self.assertEqual(raised(policy.change, 5, 0), ("BadPlan",))
        self.assertEqual(raised(policy.change, 3, 0), ("BadPlan",))
        self.assertEqual([policy.place_in(3), policy.place_in(7), policy.total(10)], [(1, 0), (2, 0), 3])
        policy.stay(7)
        policy.stay(3)
        self.assertEqual(policy.total(10), 0)
        # To change twice in one year is not possible either.
        self.assertEqual(raised(policy.change, 3, 2), ("BadPlan",))

    def test_bad_houses(self):
        policy = Policy(ONE_WAY, (1, 0))
        for bad in (*NO_INTEGERS, -1, 2, LARGE, (0, 0)):
            self.assertEqual(raised(policy.change, 3, bad), ("NoPlace", bad), bad)
        self.assertEqual(raised(policy.change, 3, 0), ("BadPlan",))

    def test_errors_change_nothing(self):
        policy = Policy(ONE_WAY, (0, 0))
        policy[2] = 1
        policy.change(5, 1)
        policy.bill(3)
        before = policy_told(policy, 9)
        for deed, values in ((policy.change, (6, 0)), (policy.change, (6, 2)), (policy.change, (-1, 1)),
                             (policy.stay, (1000,)), (policy.bill, (3,)), (policy.bill, (2,)), (policy.bill, (None,)),
                             (policy.__setitem__, (2, -1)), (policy.__setitem__, (1000, 1)), (policy.back_worth, (1, 2)),
                             (policy.back_worth, (2, 998)), (policy.correction, (2,))):
            raised(deed, *values)
            self.assertEqual(policy_told(policy, 9), before)

    def test_a_change_in_the_last_year(self):
        policy = Policy(HOUSES, (0, 0))
        policy.change(999, 1)
        self.assertEqual([policy.cost(999), policy.total(1000), policy.total(999)], [95, 99995, 99900])


class BillsTest(unittest.TestCase):

    def test_bills(self):
        policy = Policy(HOUSES, (0, 0))
        self.assertEqual(policy.bill(1), 200)
        policy[0] = 1
        self.assertEqual((policy.owed(), policy.bill(2), policy.correction(2)), (30, 130, 30))
        policy[0] = 0
        self.assertEqual((policy.owed(), policy.bill(5), policy.correction(5)), (-30, 270, -30))
        # What was corrected once is not corrected again.
        self.assertEqual((policy.owed(), policy.bill(6), policy.correction(6)), (0, 100, 0))
        self.assertEqual(answered(policy.bills_sent), [(1, 200), (2, 130), (5, 270), (6, 100)])
        self.assertEqual([policy.correction(year) for year in (1, 2, 5, 6)], [0, 30, -30, 0])

    def test_later_claims_do_not_show_in_earlier_corrections(self):
        policy = Policy(HOUSES, (0, 0))
        policy.bill(0)
        policy.bill(3)
        before = policy.correction(3)
        policy[0] = 5
        self.assertEqual((policy.correction(3), before), (0, 0))
        self.assertEqual(policy.owed(), 30)

    def test_changes_show_in_the_next_bill(self):
        policy = Policy(HOUSES, (0, 0))
        policy.bill(4)
        policy.change(2, 1)
        self.assertEqual((policy.owed(), policy.bill(5), policy.correction(5)), (-25, 65, -25))

    def test_bills_are_never_made_twice(self):
        policy = Policy(HOUSES, (0, 0))
        policy.bill(5)
        for year in (0, 4, 5):
            self.assertEqual(raised(policy.bill, year), ("Billed", 5))
        self.assertEqual(policy.bill(6), 100)
        self.assertEqual(raised(policy.bill, 6), ("Billed", 6))
        policy.bill(999)
        self.assertEqual(raised(policy.bill, 999), ("Billed", 999))
        self.assertEqual(raised(policy.bill, 1000), ("BadYears", 1000))

    def test_years_without_a_bill(self):
        policy = Policy(HOUSES, (0, 0))
        for bad in (0, 999, *NO_YEARS):
            self.assertEqual(raised(policy.correction, bad), ("NotBilled", bad), bad)
        policy.bill(1)
        policy.bill(3)
        for bad in (0, 2, 4, True, 1.0, 3.0, *NO_YEARS):
            self.assertEqual(raised(policy.correction, bad), ("NotBilled", bad), bad)
        self.assertEqual(policy.correction(1), 0)

    def test_claims_that_are_told_late_show_once(self):
        source = random.Random(621)
        for _ in range(40):
            policy, own = random_policy(source)
            told = []
            for year in range(0, 30, 3):
                claims, late = source.choice([0, 1, 2]), source.randint(0, year)
                policy[late] = claims
                own.claims[late] = claims
                told.append(policy.bill(year))
                # All bills together are what the billed years cost.
                self.assertEqual((sum(told), policy.owed()), (own.total(year + 1), 0))

    def test_lists_that_were_returned(self):
        policy = Policy(HOUSES, (0, 0))
        policy.bill(1)
        policy.bills_sent().clear()
        self.assertEqual(policy.bills_sent(), [(1, 200)])
        self.assertEqual(policy.owed(), 0)


class BackWorthTest(unittest.TestCase):

    def test_random_policies(self):
        source = random.Random(631)
        found = []
        for _ in range(800):
            policy, own = random_policy(source)
            for _ in range(12):
                change_both(self, source, policy, own, 9)
            year, years = source.randint(0, 9), source.randint(0, 9)
            if own.claims.get(year, 0) == 0:
                self.assertEqual(raised(policy.back_worth, year, years), ("BadClaims", 0))
                continue
            other = own.copy()
            other.claims[year] -= 1
            costs = [sum(cost for _, cost in told.years(40)[year + 1:year + 1 + years]) for told in (own, other)]
            before = policy_told(policy, 10)
            self.assertEqual(answered(policy.back_worth, year, years), costs[0] - costs[1])
            self.assertEqual(policy_told(policy, 10), before)
            found.append(costs[0] - costs[1])
        self.assertGreater(len([worth for worth in found if worth > 0]), 10)
        self.assertGreater(len([worth for worth in found if worth < 0]), 10)

    def test_edges(self):
        policy = Policy(HOUSES, (0, 0))
        policy[0] = 1
        self.assertEqual([policy.back_worth(0, years) for years in (0, 1, 2, 999)], [0, 30, 30, 30])
        policy[0] = LARGE
        self.assertEqual(policy.back_worth(0, 5), 0)
        policy[998] = 2
        policy[999] = 1
        self.assertEqual([policy.back_worth(998, 1), policy.back_worth(999, 0)], [0, 0])
        policy[998] = 1
        self.assertEqual(policy.back_worth(998, 1), 30)

    def test_errors(self):
        policy = Policy(HOUSES, (0, 0))
        for bad in (-1, 1001, LARGE, *NO_INTEGERS):
            self.assertEqual(raised(policy.back_worth, 3, bad), ("BadClaims", 0), bad)
        policy[3] = 1
        for bad in (-1, 1001, 997, 1000, LARGE, -LARGE, *NO_INTEGERS):
            self.assertEqual(raised(policy.back_worth, 3, bad), ("BadYears", bad), bad)
        self.assertEqual(policy.back_worth(3, 996), 30)
        policy[999] = 1
        self.assertEqual(raised(policy.back_worth, 999, 1), ("BadYears", 1))
        self.assertEqual(policy.back_worth(999, 0), 0)


class TrialTest(unittest.TestCase):

    def setUp(self):
        self.policy = Policy(HOUSES, (0, 0))
        self.policy[1] = 1
        self.policy.change(4, 1)
        self.policy.bill(2)
        self.before = policy_told(self.policy, 9)

    def assert_as_before(self):
        self.assertEqual(policy_told(self.policy, 9), self.before)

    def change_all(self, policy):
        policy[0] = 7
        policy[1] = 0
        policy.change(6, 0)
        policy.stay(4)
        policy.bill(5)

    def test_blocks(self):
        with self.policy.trial() as held:
            self.assertEqual(policy_told(held, 9), self.before)
            self.change_all(held)
            self.assertEqual(self.policy[0], 7)
            self.assertEqual(len(self.policy.bills_sent()), 2)
            self.assertNotEqual(policy_told(self.policy, 9), self.before)
        self.assert_as_before()

    def test_each_part_alone(self):
        for deed in (lambda held: held.__setitem__(1, 0), lambda held: held.change(4, 0), lambda held: held.stay(4),
                     lambda held: held.bill(7), lambda held: held.change(5, 0)):
            with self.policy.trial():
                deed(self.policy)
                self.assertNotEqual(policy_told(self.policy, 9), self.before)
            self.assert_as_before()
            self.policy.tried(deed)
            self.assert_as_before()

    def test_errors_leave_the_block(self):
        with self.assertRaises(ZeroDivisionError):
            with self.policy.trial() as held:
                self.change_all(held)
                raise ZeroDivisionError
        self.assert_as_before()

        def told(held):
            self.change_all(held)
            held[1000] = 1

        self.assertEqual(raised(self.policy.tried, told), ("BadYears", 1000))
        self.assert_as_before()

    def test_nested_blocks(self):
        with self.policy.trial() as held:
            held[0] = 2
            held.bill(3)
            middle = policy_told(held, 9)
            with held.trial() as inner:
                self.change_all(inner)
                with self.policy.trial():
                    self.policy.change(8, 1)
                self.assertEqual(inner.tried(lambda further: further.owed()), self.policy.owed())
            self.assertEqual(policy_told(self.policy, 9), middle)
            held.change(7, 1)
        self.assert_as_before()

    def test_what_was_there_when_the_block_began(self):
        trial = self.policy.trial()
        self.policy[0] = 1
        self.policy.bill(3)
        before = policy_told(self.policy, 9)
        with trial:
            self.change_all(self.policy)
        self.assertEqual(policy_told(self.policy, 9), before)

    def test_what_deeds_return(self):
        for told in (None, False, 0, {}, "told"):
            def deed(held, told=told):
                self.change_all(held)
                return told
            self.assertIs(self.policy.tried(deed), told)
            self.assert_as_before()
        self.assertEqual(self.policy.tried(lambda held: held.bill(3)), self.policy.cost(3))
        self.assert_as_before()

    def test_deeds_behind_a_block(self):
        with self.policy.trial():
            self.change_all(self.policy)
        self.change_all(self.policy)
        other = Policy(HOUSES, (0, 0))
        other[1] = 1
        other.change(4, 1)
        other.bill(2)
        self.change_all(other)
        self.assertEqual(policy_told(self.policy, 9), policy_told(other, 9))

    def test_twins(self):
        twin = self.policy.twin()
        self.assertIsInstance(twin, Policy)
        self.assertIsNot(twin, self.policy)
        self.assertEqual(policy_told(twin, 9), self.before)
        self.change_all(twin)
        self.assert_as_before()
        changed = policy_told(twin, 9)
        self.assertNotEqual(changed, self.before)
        self.policy[3] = 9
        self.policy.change(1, 1)
        self.policy.bill(8)
        self.assertEqual(policy_told(twin, 9), changed)
        # The twin of a twin, and a twin that is made in a trial and lasts longer.
        with twin.trial():
            twin[2] = 3
            kept = twin.twin()
        self.assertEqual((kept[2], twin[2]), (3, 0))
        self.assertEqual(policy_told(twin.twin(), 9), changed)


class LongPoliciesTest(unittest.TestCase):

    def test_a_thousand_years_are_answered_soon(self):
        began = time.perf_counter()
        source = random.Random(641)
        scales = [random_scale(source, 6, 5) for _ in range(2)]
        ways = random_ways(source, scales, 1)
        policy, own = Policy(Houses(scales, ways), (0, 0)), OwnPolicy(scales, ways, (0, 0))
        for year in range(1000):
            policy[year] = own.claims[year] = source.randint(0, 5)
        for year in range(0, 1000, 7):
            policy.change(year, year // 7 % 2)
            own.choices[year] = year // 7 % 2
        self.assertEqual(policy.total(1000), own.total(1000))
        for year in range(0, 1000, 3):
            self.assertEqual(policy.bill(year), own.bill(year))
            policy[year // 2] = own.claims[year // 2] = source.randint(0, 5)
            self.assertEqual(policy.correction(year), own.bills[-1][2])
        self.assertEqual(policy.owed(), own.owed())
        self.assertEqual(policy.place_in(999), own.years()[999][0])
        policy[0] = own.claims[0] = 3
        other = own.copy()
        other.claims[0] = 2
        self.assertEqual(policy.back_worth(0, 999), own.total(1000) - other.total(1000))
        self.assertLess(time.perf_counter() - began, 15)

    def test_the_houses_stay_as_they_are(self):
        before = written(HOUSES)
        policy = Policy(HOUSES, (0, 1))
        policy[0] = 1
        policy.change(1, 1)
        policy.bill(5)
        policy_told(policy, 20)
        self.assertEqual(written(HOUSES), before)

    def test_premiums_of_all_sizes(self):
        houses = Houses([Scale([0, 1000000], [[0, 1], [0, 1]]), Scale([1000000], [[0]])], {(0, 1): ([0, 0], 1000000)})
        policy = Policy(houses, (0, 1))
        self.assertEqual(policy.total(1000), 1000000)
        policy.change(500, 1)
        self.assertEqual(policy.total(1000), 1000000 + 1000000 + 500 * 1000000)


if __name__ == "__main__":
    unittest.main()
