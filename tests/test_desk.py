"""Points 3, 4 and 67 to 71: desks."""

import itertools
import random
import time
import unittest

from claimclasses.changing import Houses
from claimclasses.desk import Desk
from claimclasses.policies import Policy
from tests.helpers import (HARSH, LARGE, LONELY, MILD, NO_INTEGERS, OwnPolicy, all_places, answered, own_told,
                           policy_told, raised, random_houses, random_scale, random_ways, written)

WAYS = {(0, 1): ([0, 0, 1], 5), (1, 0): ([0, 2], 5)}
HOUSES = Houses([MILD, HARSH], WAYS)
ONE_WAY = Houses([MILD, HARSH], {(0, 1): ([0, 0, 1], 7)})
# None of these can be a name.
NO_NAMES = (*NO_INTEGERS, "abcdefghijklm", "A", "aB", "a1", "a b", " a", "a ", "a-b", "a\n", "\u00e4", "\u0430", "\u00df", "_",
            "\u0131", b"ann", ("ann",), ["ann"], {"ann": 1}, 7)
NO_YEARS = (-1, 1000, LARGE, -LARGE, *NO_INTEGERS)
NO_PLACES = (None, 0, [0, 0], (0,), (0, 0, 0), (2, 0), (0, 3), (1, 2), (-1, 0), (True, 0), (0, False), "00", ([], 0))
NAMES = ("ann", "bo", "cy", "dee")


def desk_told(desk, many=9):
    """All that a desk tells of its policies and their first years."""
    return (desk.names(), len(desk), [desk.total(years) for years in range(many)],
            [desk.taken(years) for years in range(many)], [policy_told(desk.policy(name), many) for name in desk.names()])


class OwnDesk:
    """Points 67 to 71, said once more without the program: each deed keeps the whole desk as it was before."""

    def __init__(self, scales, ways):
        self.scales, self.ways = scales, ways
        self.policies, self.before = {}, []

    def done(self):
        self.before.append({name: own.copy() for name, own in self.policies.items()})

    def told(self, many=9):
        names = sorted(self.policies)
        owns = [self.policies[name] for name in names]
        taken = [[sum(cost for own in owns for place, cost in own.years(years) if place[0] == house)
                  for house in range(len(self.scales))] for years in range(many)]
        return (names, len(names), [sum(own.total(years) for own in owns) for years in range(many)], taken,
                [own_told(own, many) for own in owns])


def do_both(case, source, desk, own):
    """Some deed on both, with the same outcome; errors included."""
    name = source.choice(NAMES)
    known = name in own.policies
    kind = source.randrange(8)
    if kind == 0:
        place = source.choice(all_places(own.scales))
        if known:
            case.assertEqual(raised(desk.take_in, name, place), ("NameTaken", name))
        else:
            own.done()
            own.policies[name] = OwnPolicy(own.scales, own.ways, place)
            case.assertIsNone(desk.take_in(name, place))
    elif kind == 1:
        if known and source.random() < 0.3:
            own.done()
            del own.policies[name]
            case.assertIsNone(desk.drop(name))
        elif not known:
            case.assertEqual(raised(desk.drop, name), ("NoPolicy", name))
    elif kind in (2, 3):
        tell_both(case, source, desk, own)
    elif kind == 4:
        move_both(case, source, desk, own, name)
    elif kind == 5:
        year = source.randint(0, 7)
        own.done()
        case.assertEqual(desk.bill(year), {name: policy.bill(year) for name, policy in own.policies.items()
                                           if policy.billed() <= year})
    elif kind == 6:
        if own.before:
            own.policies = own.before.pop()
            case.assertIsNone(desk.undo())
        else:
            case.assertEqual(raised(desk.undo), ("NothingToUndo",))
    case.assertEqual(desk.deeds(), len(own.before))


def tell_both(case, source, desk, own):
    rows = [(source.choice(NAMES), source.randint(0, 7), source.choice([0, 1, 2, LARGE, -1 if source.random() < 0.1 else 1]))
            for _ in range(source.randint(0, 4))]
    wrong = [("NoPolicy", name) if name not in own.policies else ("BadClaims", claims)
             for name, _, claims in rows if name not in own.policies or claims < 0]
    if wrong:
        case.assertEqual(raised(desk.news, rows), wrong[0])
        return
    own.done()
    for name, year, claims in rows:
        own.policies[name].claims[year] = claims
    case.assertIsNone(desk.news(rows))


def move_both(case, source, desk, own, name):
    year, house = source.randint(0, 7), source.randrange(len(own.scales))
    if name not in own.policies:
        case.assertEqual(raised(desk.move, name, year, house), ("NoPolicy", name))
        return
    tried = own.policies[name].copy()
    tried.choices[year] = house
    if tried.years(20) is None:
        case.assertEqual(raised(desk.move, name, year, house), ("BadPlan",))
        return
    own.done()
    own.policies[name] = tried
    case.assertIsNone(desk.move(name, year, house))


def small_desk():
    desk = Desk(HOUSES)
    desk.take_in("ann", (0, 0))
    desk.take_in("bo", (1, 1))
    desk.news([("ann", 0, 1), ("bo", 3, 2)])
    desk.move("bo", 1, 0)
    desk.bill(0)
    return desk


class DeskTest(unittest.TestCase):

    def test_random_deeds(self):
        source = random.Random(671)
        for _ in range(60):
            scales, ways = random_houses(source)
            if source.random() < 0.7:
                scales = [random_scale(source, source.randint(2, 4), source.randint(2, 3), 9) for _ in range(3)]
                ways = random_ways(source, scales, source.choice([0.5, 0.8]))
            desk, own = Desk(Houses(scales, ways)), OwnDesk(scales, ways)
            for _ in range(source.randint(0, 30)):
                do_both(self, source, desk, own)
            self.assertEqual(desk_told(desk), own.told())
            # All deeds are taken back, one by one.
            while own.before:
                own.policies = own.before.pop()
                desk.undo()
                self.assertEqual(desk_told(desk, 4), own.told(4))
            self.assertEqual((desk.names(), desk.deeds()), ([], 0))

    def test_an_empty_desk(self):
        desk = Desk(HOUSES)
        self.assertEqual((len(desk), answered(desk.names), desk.deeds(), desk.total(1000)), (0, [], 0, 0))
        self.assertEqual(answered(desk.taken, 1000), [0, 0])
        self.assertEqual(raised(desk.undo), ("NothingToUndo",))
        self.assertEqual(desk.bill(3), {})
        self.assertEqual(desk.deeds(), 1)

    def test_names(self):
        desk = Desk(HOUSES)
        for name in ("a", "z", "abcdefghijkl", "zzzzzzzzzzzz", "bo", "ann"):
            self.assertNotIn(name, desk)
            self.assertIsNone(desk.take_in(name, (0, 0)))
            self.assertIn(name, desk)
        self.assertEqual(answered(desk.names), ["a", "abcdefghijkl", "ann", "bo", "z", "zzzzzzzzzzzz"])
        self.assertEqual(len(desk), 6)
        desk.names().clear()
        self.assertEqual(len(desk.names()), 6)

    def test_any_value_may_be_asked_for(self):
        desk = small_desk()
        for value in (*NO_NAMES, "", "annn", "an", "Ann", ("ann", "bo"), desk, HOUSES):
            self.assertIs(value in desk, False)
        self.assertIs("ann" in desk, True)

    def test_drop(self):
        desk = small_desk()
        self.assertIsNone(desk.drop("ann"))
        self.assertEqual((desk.names(), len(desk), "ann" in desk), (["bo"], 1, False))
        # The name is free again, and nothing is left of the policy that had it.
        desk.take_in("ann", (0, 0))
        self.assertEqual(policy_told(desk.policy("ann"), 5), policy_told(Policy(HOUSES, (0, 0)), 5))

    def test_errors_of_taking_in(self):
        desk = small_desk()
        before = (desk_told(desk), desk.deeds())
        for bad in NO_NAMES:
            self.assertEqual(raised(desk.take_in, bad, None), ("BadName", bad), bad)
        for bad in ("", "annannannanna", "Ann", "ann1"):
            self.assertEqual(raised(desk.take_in, bad, (0, 0)), ("BadName", bad), bad)
        self.assertEqual(raised(desk.take_in, "ann", None), ("NameTaken", "ann"))
        self.assertEqual(raised(desk.take_in, "bo", (0, 0)), ("NameTaken", "bo"))
        for bad in NO_PLACES:
            self.assertEqual(raised(desk.take_in, "cy", bad), ("NoPlace", bad), bad)
        self.assertEqual((desk_told(desk), desk.deeds()), before)

    def test_names_that_the_desk_does_not_have(self):
        desk = small_desk()
        before = (desk_told(desk), desk.deeds())
        for bad in (*NO_NAMES, "", "cy", "annn"):
            self.assertEqual(raised(desk.drop, bad), ("NoPolicy", bad), bad)
            self.assertEqual(raised(desk.policy, bad), ("NoPolicy", bad), bad)
            self.assertEqual(raised(desk.move, bad, -1, None), ("NoPolicy", bad), bad)
            self.assertEqual(raised(desk.news, [(bad, -1, -1)]), ("NoPolicy", bad), bad)
        self.assertEqual((desk_told(desk), desk.deeds()), before)

    def test_policies_are_twins(self):
        desk = small_desk()
        before = desk_told(desk)
        policy = desk.policy("ann")
        self.assertIsInstance(policy, Policy)
        self.assertIsNot(policy, desk.policy("ann"))
        policy[0] = 9
        policy.change(2, 1)
        policy.bill(7)
        self.assertEqual(desk_told(desk), before)
        kept = policy_told(desk.policy("bo"), 9)
        other = desk.policy("bo")
        desk.news([("bo", 0, 1)])
        desk.bill(5)
        desk.drop("bo")
        self.assertEqual(policy_told(other, 9), kept)


class NewsTest(unittest.TestCase):

    def test_news(self):
        desk = small_desk()
        rows = [("ann", 5, 1), ("bo", 0, 3), ("ann", 5, 2), ("ann", 999, LARGE), ("bo", 3, 0)]
        self.assertIsNone(answered(desk.news, rows))
        ann, bo = desk.policy("ann"), desk.policy("bo")
        self.assertEqual([ann[0], ann[5], ann[999], bo[0], bo[3]], [1, 2, LARGE, 3, 0])
        rows.clear()
        self.assertEqual(desk.policy("ann")[5], 2)

    def test_errors_take_nothing_in(self):
        good = [("ann", 5, 1), ("bo", 0, 3)]
        for bad, told in ((("cy", -1, -1), ("NoPolicy", "cy")), (("ann", -1, -1), ("BadYears", -1)),
                          (("ann", 1000, 0), ("BadYears", 1000)), (("bo", True, 0), ("BadYears", True)),
                          (("ann", 3, -1), ("BadClaims", -1)), (("bo", 0, None), ("BadClaims", None)),
                          ((None, 0, 0), ("NoPolicy", None)), ((["ann"], 0, 0), ("NoPolicy", ["ann"]))):
            for rows in ([*good, bad], [bad, *good], [*good, bad, *good, ("ann", 3, -2), ("zed", 0, 0)]):
                desk = small_desk()
                before = (desk_told(desk), desk.deeds())
                self.assertEqual(raised(desk.news, rows), told)
                self.assertEqual((desk_told(desk), desk.deeds()), before)

    def test_no_rows_are_a_deed_too(self):
        desk = small_desk()
        before = desk_told(desk)
        self.assertIsNone(desk.news([]))
        self.assertEqual((desk.deeds(), desk_told(desk)), (6, before))
        desk.undo()
        self.assertEqual((desk.deeds(), desk_told(desk)), (5, before))

    def test_moves(self):
        desk = Desk(ONE_WAY)
        desk.take_in("ann", (0, 2))
        desk.take_in("bo", (1, 0))
        self.assertIsNone(desk.move("ann", 1, 1))
        self.assertEqual([desk.policy("ann").place_in(1), desk.policy("ann").cost(1)], [(1, 0), 97])
        before = (desk_told(desk), desk.deeds())
        for year in NO_YEARS:
            self.assertEqual(raised(desk.move, "bo", year, None), ("BadYears", year), year)
        for house in (*NO_INTEGERS, -1, 2, LARGE):
            self.assertEqual(raised(desk.move, "bo", 0, house), ("NoPlace", house), house)
        self.assertEqual(raised(desk.move, "bo", 0, 0), ("BadPlan",))
        self.assertEqual(raised(desk.move, "ann", 2, 0), ("BadPlan",))
        self.assertEqual((desk_told(desk), desk.deeds()), before)


class BillTest(unittest.TestCase):

    def test_bills(self):
        desk = small_desk()
        self.assertEqual(desk.undo(), None)
        self.assertEqual(answered(lambda: desk.tried(lambda held: held.bill(0))), {"ann": 100, "bo": 200})
        self.assertEqual(desk.bill(0), {"ann": 100, "bo": 200})
        # Who was billed for this year is not billed again.
        self.assertEqual(desk.bill(0), {})
        desk.take_in("cy", (0, 2))
        self.assertEqual(desk.bill(0), {"cy": 160})
        self.assertEqual(desk.bill(2), {"ann": 130 + 100, "bo": 100 + 5 + 100, "cy": 230})
        desk.take_in("dee", (0, 0))
        self.assertEqual(desk.bill(1), {"dee": 200})
        self.assertEqual(desk.policy("cy").bills_sent(), [(0, 160), (2, 230)])
        self.assertEqual(desk.policy("dee").bills_sent(), [(1, 200)])
        desk.news([("ann", 0, 0)])
        self.assertEqual(desk.bill(3)["ann"], 100 - 30)
        self.assertEqual(desk.policy("ann").correction(3), -30)

    def test_bad_years(self):
        for desk in (small_desk(), Desk(HOUSES)):
            before = (desk_told(desk), desk.deeds())
            for bad in NO_YEARS:
                self.assertEqual(raised(desk.bill, bad), ("BadYears", bad), bad)
            for bad in (-1, 1001, LARGE, -LARGE, *NO_INTEGERS):
                self.assertEqual(raised(desk.total, bad), ("BadYears", bad), bad)
                self.assertEqual(raised(desk.taken, bad), ("BadYears", bad), bad)
            self.assertEqual((desk_told(desk), desk.deeds()), before)

    def test_sums_of_the_houses(self):
        desk = Desk(HOUSES)
        desk.take_in("ann", (0, 0))
        desk.take_in("bo", (1, 1))
        desk.news([("ann", 0, 1), ("bo", 3, 2)])
        desk.move("bo", 1, 0)
        self.assertEqual(answered(desk.taken, 2), [335, 200])
        # The house to which a policy changes takes the fee.
        self.assertEqual([desk.taken(years) for years in (0, 1)], [[0, 0], [100, 200]])
        for years in (0, 1, 2, 5, 100, 1000):
            self.assertEqual(sum(desk.taken(years)), desk.total(years))

    def test_houses_without_policies(self):
        desk = Desk(Houses([MILD, HARSH, LONELY], {}))
        desk.take_in("ann", (1, 0))
        self.assertEqual(desk.taken(10), [0, 900, 0])
        self.assertEqual(desk.taken(1000), [0, 90000, 0])

    def test_what_was_returned(self):
        desk = small_desk()
        before = desk_told(desk)
        desk.taken(5).clear()
        self.assertEqual(desk_told(desk), before)
        told = desk.bill(3)
        before = desk_told(desk)
        told.clear()
        self.assertEqual(desk_told(desk), before)


class UndoTest(unittest.TestCase):

    def test_each_deed(self):
        for deed in (lambda desk: desk.take_in("cy", (0, 1)), lambda desk: desk.drop("ann"), lambda desk: desk.bill(4),
                     lambda desk: desk.news([("ann", 1, 1), ("bo", 1, 1), ("ann", 2, 1)]),
                     lambda desk: desk.move("ann", 1, 1), lambda desk: desk.move("bo", 1, 1)):
            desk = small_desk()
            before = desk_told(desk)
            deed(desk)
            after = desk_told(desk)
            self.assertNotEqual(after, before)
            self.assertEqual(desk.deeds(), 6)
            self.assertIsNone(desk.undo())
            self.assertEqual((desk_told(desk), desk.deeds()), (before, 5))
            # Then it can be done again.
            deed(desk)
            self.assertEqual((desk_told(desk), desk.deeds()), (after, 6))

    def test_all_deeds(self):
        desk = small_desk()
        for left in (4, 3, 2, 1, 0):
            desk.undo()
            self.assertEqual(desk.deeds(), left)
        self.assertEqual(desk.names(), [])
        self.assertEqual(raised(desk.undo), ("NothingToUndo",))
        desk.take_in("ann", (1, 0))
        self.assertEqual(desk.deeds(), 1)

    def test_a_dropped_policy_comes_back_whole(self):
        desk = small_desk()
        before = policy_told(desk.policy("bo"), 9)
        desk.drop("bo")
        desk.take_in("bo", (0, 0))
        desk.news([("bo", 0, 5)])
        desk.undo()
        desk.undo()
        desk.undo()
        self.assertEqual(policy_told(desk.policy("bo"), 9), before)

    def test_errors_are_no_deeds(self):
        desk = small_desk()
        before = desk_told(desk)
        for deed, values in ((desk.take_in, ("ann", (0, 0))), (desk.take_in, ("", (0, 0))), (desk.drop, ("cy",)),
                             (desk.take_in, ("cy", (9, 9))), (desk.news, ([("ann", 1, 1), ("cy", 0, 0)],)),
                             (desk.move, ("ann", 1, 2)), (desk.bill, (1000,)), (desk.total, (None,)),
                             (desk.taken, (1001,)), (desk.policy, ("cy",))):
            raised(deed, *values)
            self.assertEqual((desk_told(desk), desk.deeds()), (before, 5))


class TrialTest(unittest.TestCase):

    def setUp(self):
        self.desk = small_desk()
        self.before = desk_told(self.desk)

    def assert_as_before(self):
        self.assertEqual((desk_told(self.desk), self.desk.deeds()), (self.before, 5))

    def change_all(self, desk):
        desk.take_in("cy", (0, 1))
        desk.news([("ann", 1, 1), ("cy", 1, 1)])
        desk.move("ann", 3, 1)
        desk.drop("bo")
        desk.bill(6)

    def test_blocks(self):
        with self.desk.trial() as held:
            self.assertEqual(desk_told(held), self.before)
            self.change_all(held)
            self.assertEqual((self.desk.names(), self.desk.deeds()), (["ann", "cy"], 10))
        self.assert_as_before()
        with self.desk.trial():
            self.change_all(self.desk)
            self.assertNotEqual(desk_told(self.desk), self.before)
        self.assert_as_before()

    def test_deeds_that_are_taken_back_in_a_block(self):
        with self.desk.trial():
            for _ in range(5):
                self.desk.undo()
            self.assertEqual((self.desk.names(), self.desk.deeds()), ([], 0))
            self.desk.take_in("dee", (0, 0))
        self.assert_as_before()
        # The same deeds can be taken back as before the block.
        other = small_desk()
        for _ in range(5):
            self.desk.undo()
            other.undo()
            self.assertEqual(desk_told(self.desk), desk_told(other))
        self.assertEqual(raised(self.desk.undo), ("NothingToUndo",))

    def test_errors_leave_the_block(self):
        with self.assertRaises(KeyError):
            with self.desk.trial() as held:
                self.change_all(held)
                raise KeyError("told")
        self.assert_as_before()

        def told(held):
            self.change_all(held)
            held.drop("zed")

        self.assertEqual(raised(self.desk.tried, told), ("NoPolicy", "zed"))
        self.assert_as_before()

    def test_nested_blocks(self):
        with self.desk.trial() as held:
            held.news([("ann", 4, 1)])
            middle = (desk_told(held), held.deeds())
            with held.trial() as inner:
                self.change_all(inner)
                with self.desk.trial():
                    self.desk.drop("ann")
                self.assertEqual(inner.tried(lambda further: further.deeds()), 11)
            self.assertEqual((desk_told(self.desk), self.desk.deeds()), middle)
            held.undo()
            held.undo()
        self.assert_as_before()

    def test_what_was_there_when_the_block_began(self):
        trial = self.desk.trial()
        self.desk.drop("ann")
        before = (desk_told(self.desk), self.desk.deeds())
        with trial:
            self.desk.undo()
            self.change_all(self.desk)
        self.assertEqual((desk_told(self.desk), self.desk.deeds()), before)

    def test_what_deeds_return(self):
        for told in (None, False, 0, {}, "told"):
            def deed(held, told=told):
                self.change_all(held)
                return told
            self.assertIs(self.desk.tried(deed), told)
            self.assert_as_before()
        self.assertEqual(self.desk.tried(lambda held: held.bill(0)), {})
        self.assertEqual(sorted(self.desk.tried(lambda held: held.bill(1))), ["ann", "bo"])
        self.assert_as_before()

    def test_deeds_behind_a_block(self):
        with self.desk.trial():
            self.change_all(self.desk)
        self.change_all(self.desk)
        other = small_desk()
        self.change_all(other)
        self.assertEqual((desk_told(self.desk), self.desk.deeds()), (desk_told(other), other.deeds()))
        self.desk.undo()
        other.undo()
        self.assertEqual(desk_told(self.desk), desk_told(other))


class OtherOrdersTest(unittest.TestCase):

    def test_the_same_policies_given_in_any_order(self):
        # Point 71: names, claims and choices may come in any order, with detours, too.
        deeds = [lambda desk: desk.news([("ann", 0, 1)]), lambda desk: desk.news([("bo", 2, 3), ("ann", 4, 2)]),
                 lambda desk: desk.move("bo", 1, 0), lambda desk: desk.move("ann", 3, 1)]
        found = []
        for names in (("ann", "bo"), ("bo", "ann")):
            for order in itertools.permutations(deeds):
                desk = Desk(HOUSES)
                for name in names:
                    desk.take_in(name, {"ann": (0, 0), "bo": (1, 1)}[name])
                for deed in order:
                    deed(desk)
                desk.bill(3)
                found.append(desk_told(desk))
        self.assertTrue(all(told == found[0] for told in found))

    def test_detours(self):
        desk = small_desk()
        desk.news([("ann", 7, 4), ("ann", 2, 2)])
        desk.drop("bo")
        desk.undo()
        desk.move("ann", 5, 1)
        desk.undo()
        desk.news([("ann", 7, 0), ("ann", 2, 0)])
        desk.take_in("cy", (0, 0))
        desk.drop("cy")
        with desk.trial():
            desk.bill(9)
        self.assertEqual(desk_told(desk), desk_told(small_desk()))
        self.assertEqual(desk.bill(8), small_desk().bill(8))

    def test_two_desks_know_nothing_of_each_other(self):
        one, other = small_desk(), small_desk()
        before = desk_told(other)
        one.news([("ann", 1, 2)])
        one.drop("bo")
        one.bill(7)
        self.assertEqual((desk_told(other), other.deeds()), (before, 5))


class ManyPoliciesTest(unittest.TestCase):

    def test_many_policies_are_answered_soon(self):
        began = time.perf_counter()
        desk = Desk(HOUSES)
        names = ["".join(letters) for letters in itertools.product("abcdefg", repeat=3)]
        for at, name in enumerate(names):
            desk.take_in(name, (0, at % 3))
        desk.news([(name, year, year % 3) for name in names for year in range(0, 100, 9)])
        for year in range(0, 60, 10):
            desk.bill(year)
        self.assertEqual(desk.total(1000), sum(desk.taken(1000)))
        while desk.deeds() > 0:
            desk.undo()
        self.assertEqual(len(desk), 0)
        self.assertLess(time.perf_counter() - began, 15)

    def test_a_thousand_years(self):
        began = time.perf_counter()
        desk = Desk(HOUSES)
        desk.take_in("ann", (0, 0))
        desk.news([("ann", year, year % 2) for year in range(1000)])
        bills = [desk.bill(year)["ann"] for year in range(0, 1000, 5)]
        self.assertEqual(sum(bills), desk.total(996))
        self.assertLess(time.perf_counter() - began, 15)

    def test_the_houses_stay_as_they_are(self):
        before = written(HOUSES)
        desk_told(small_desk())
        self.assertEqual(written(HOUSES), before)


if __name__ == "__main__":
    unittest.main()
