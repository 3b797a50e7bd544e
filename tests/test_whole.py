"""What the document promises over the whole program: points 1, 3, 4, 20, 49 and 71, and how its parts fit together."""

import itertools
import random
import unittest

from claimclasses import alike, changing, fairness, means, memory, orders, pairs, reporting
from claimclasses.changing import Houses, cheapest, gain
from claimclasses.desk import Desk
from claimclasses.errors import ClaimError
from claimclasses.makers import renumbered
from claimclasses.pairs import excess, never_more
from claimclasses.policies import Policy
from claimclasses.scales import Scale
from claimclasses.seen import Seen
from tests.helpers import (ERRORS, all_places, answered, policy_told, raised, random_houses, random_row, random_scale,
                           random_scales, random_ways, small_cases)


def told_of(scale, at):
    """All that is told of one scale and one of its classes."""
    whole = [deed(scale) for deed in (
        alike.needless_columns, memory.forgotten, memory.kept_apart, memory.uniting_row, memory.never_meeting,
        memory.always_forgotten, memory.kept_ring, fairness.unfair_year, fairness.fair_pairs, fairness.unfair_sum,
        fairness.worse, fairness.order_ring, fairness.ranks)]
    smaller, led = alike.least(scale)
    seen = Seen(scale, 3)
    seen.paid(2, scale.premium(at))
    return [whole, smaller.premiums(), smaller.table(), led, alike.least_from(scale, at).table(), scale.reached(at),
            scale.columns, means.long_run(scale, at), memory.classes_after(scale, [1, 0]),
            orders.cheapest_order(scale, at, [0, 2, 1], 2), orders.places_cost(scale, at, 1, 4),
            orders.never_dearer(scale, [0, 1], [1, 0]), orders.best_spread(scale, 1, 1),
            orders.alike_behind(scale, [0, 1], [1, 0]), reporting.report(scale, at, [[3, 8], [2]], 1, 2),
            reporting.worth(scale, at, 0, 3), reporting.worth_ever(scale, at, 0),
            seen.stories(), seen.fewest(), seen.most(), seen.best_year(), seen.possible(0)]


def told_of_both(one, start, other, begin):
    """All that is told of two scales and a class of each."""
    deeds = (pairs.pairs, excess, never_more, pairs.potentials, means.greatest_mean, means.least_mean,
             means.mean_potentials, means.offset, alike.parting_row)
    return [deed(one, start, other, begin) for deed in deeds] + [alike.alike_in(one, other),
                                                                 pairs.by_years(one, start, other, begin, 5)]


def anew(scale):
    return Scale(scale.premiums(), scale.table())


def counted(told):
    """What does not depend on the numbers of the classes of what `excess` tells: its kind, its amount and its years."""
    return told[0] if told[0] == "endless" else (told[0], told[1], len(told[2]))


class ScalesMadeAnewTest(unittest.TestCase):

    def test_one_scale(self):
        for scale in [*random_scales(711, 10), *random_scales(712, 10, 3)]:
            at = len(scale) - 1
            self.assertEqual(told_of(anew(scale), at), told_of(scale, at))

    def test_two_scales(self):
        for one, start, other, begin in small_cases(713, 60):
            told = told_of_both(one, start, other, begin)
            self.assertEqual(told_of_both(anew(one), start, anew(other), begin), told)
            # A scale may be compared with itself.
            if one.same(other):
                self.assertEqual(told_of_both(one, start, one, begin), told)

    def test_houses_policies_and_desks(self):
        source = random.Random(714)
        for _ in range(40):
            scales, ways = random_houses(source)
            place = source.choice(all_places(scales))
            row = random_row(source, 5)
            houses, other = Houses(scales, ways), Houses([anew(scale) for scale in scales], dict(ways))
            self.assertEqual(cheapest(houses, place, row), cheapest(other, place, row))
            self.assertEqual(gain(houses, place), gain(other, place))
            told = []
            for kept in (houses, other):
                policy = Policy(kept, place)
                for year, claims in enumerate(row):
                    policy[year] = claims
                told.append(policy_told(policy, 9))
            self.assertEqual(told[0], told[1])


class RenumberedTest(unittest.TestCase):

    def setUp(self):
        source = random.Random(721)
        self.cases = []
        for scale in [*random_scales(722, 10), *random_scales(723, 15, 2), *[case[0] for case in small_cases(724, 50)]]:
            order = source.sample(range(len(scale)), len(scale))
            # Class `order[i]` is class `i` of the other one.
            self.cases.append((scale, renumbered(scale, order), order, source.randrange(len(scale))))

    def test_fairness(self):
        for scale, other, order, _ in self.cases:
            self.assertEqual(sorted((order[at], order[by]) for at, by in fairness.worse(other)), fairness.worse(scale))
            ranks = fairness.ranks(scale)
            self.assertEqual(fairness.ranks(other), ranks and [ranks[at] for at in order])
            one, two = fairness.unfair_year(scale), fairness.unfair_year(other)
            self.assertEqual(one and len(one[2]), two and len(two[2]))
            self.assertEqual(fairness.unfair_sum(scale) is None, fairness.unfair_sum(other) is None)
            self.assertEqual(fairness.order_ring(scale) is None, fairness.order_ring(other) is None)

    def test_orders_and_reports(self):
        for scale, other, order, at in self.cases:
            then = order.index(at)
            self.assertEqual(orders.cheapest_order(scale, at, [0, 1, 2, 0], 3)[0],
                             orders.cheapest_order(other, then, [0, 1, 2, 0], 3)[0])
            self.assertEqual(orders.places_cost(scale, at, 2, 6), orders.places_cost(other, then, 2, 6))
            self.assertEqual(orders.best_spread(scale, 1, 2), orders.best_spread(other, 1, 2))
            self.assertEqual(orders.never_dearer(scale, [0, 1], [1, 0]) is None,
                             orders.never_dearer(other, [0, 1], [1, 0]) is None)
            self.assertEqual(orders.alike_behind(scale, [0, 1], [1, 0]) is None,
                             orders.alike_behind(other, [0, 1], [1, 0]) is None)
            self.assertEqual(reporting.report(scale, at, [[5, 9], [7]], 2, 3)[0],
                             reporting.report(other, then, [[5, 9], [7]], 2, 3)[0])
            paper = reporting.report_paper(scale, [[5, 9], [7]], 2, 3)
            self.assertEqual(reporting.report_paper(other, [[5, 9], [7]], 2, 3),
                             [[amounts[old] for old in order] for amounts in paper])
            self.assertEqual(reporting.worth(scale, at, 0, 6), reporting.worth(other, then, 0, 6))
            self.assertEqual(counted(reporting.worth_ever(scale, at, 0)),
                             counted(reporting.worth_ever(other, then, 0)))

    def test_comparisons_and_memory(self):
        for scale, other, order, at in self.cases:
            then = order.index(at)
            self.assertEqual(counted(excess(scale, at, other, 0)), counted(excess(other, then, other, 0)))
            self.assertEqual(excess(scale, at, other, then), ("most", 0, []))
            self.assertEqual(means.long_run(scale, at), means.long_run(other, then))
            self.assertIsNone(alike.parting_row(scale, at, other, then))
            self.assertTrue(alike.least_from(scale, at).same(alike.least_from(other, then)))
            self.assertEqual(len(alike.least(scale)[0]), len(alike.least(other)[0]))
            self.assertEqual(memory.always_forgotten(scale), memory.always_forgotten(other))
            one, two = memory.forgotten(scale), memory.forgotten(other)
            self.assertEqual(one, two and (two[0], order[two[1]]))

    def test_classes_that_were_seen(self):
        for scale, other, order, at in self.cases:
            one, two = Seen(scale, 4), Seen(other, 4)
            one[2] = at
            two[2] = order.index(at)
            one.paid(4, scale.premium(0))
            two.paid(4, scale.premium(0))
            self.assertEqual(one.stories(), two.stories())
            self.assertEqual(one.best_year(), two.best_year())
            self.assertEqual(one.clash(), two.clash())
            for year in range(5):
                self.assertEqual(one.possible(year), sorted(order[by] for by in two.possible(year)))
            sums = [story and sum(story[1]) for story in (one.fewest(), two.fewest(), one.most(), two.most())]
            self.assertEqual((sums[0], sums[2]), (sums[1], sums[3]))

    def test_houses(self):
        source = random.Random(725)
        for _ in range(60):
            scales, ways = random_houses(source)
            orders_of = [source.sample(range(len(scale)), len(scale)) for scale in scales]
            others = [renumbered(scale, order) for scale, order in zip(scales, orders_of)]
            turned = {(house, to): ([orders_of[to].index(classes[at]) for at in orders_of[house]], fee)
                      for (house, to), (classes, fee) in ways.items()}
            houses, other = Houses(scales, ways), Houses(others, turned)
            house, at = source.choice(all_places(scales))
            then = (house, orders_of[house].index(at))
            row = random_row(source, 5)
            self.assertEqual(cheapest(houses, (house, at), row)[0], cheapest(other, then, row)[0])
            self.assertEqual(counted(gain(houses, (house, at))), counted(gain(other, then)))
            desks = [Desk(houses), Desk(other)]
            for desk, place in zip(desks, ((house, at), then)):
                desk.take_in("ann", place)
                desk.news([("ann", year, claims) for year, claims in enumerate(row)])
            self.assertEqual(desks[0].taken(20), desks[1].taken(20))
            self.assertEqual(desks[0].bill(9), desks[1].bill(9))


class ThirdScaleTest(unittest.TestCase):

    def test_the_excess_by_way_of_a_third_scale(self):
        source = random.Random(731)
        compared = 0
        scales = [random_scale(source, source.randint(1, 5), source.randint(1, 3), 9) for _ in range(30)]
        # They differ by what was added to their premiums, so many an excess has an end.
        scales.extend([scale + source.randint(0, 9) for scale in scales])
        for _ in range(1500):
            places = [(scale, source.randrange(len(scale))) for scale in source.sample(scales, 3)]
            first, second, third = places
            told = [excess(*first, *second), excess(*second, *third)]
            if told[0][0] == "most" and told[1][0] == "most":
                through = excess(*first, *third)
                self.assertEqual(through[0], "most")
                self.assertLessEqual(through[1], told[0][1] + told[1][1])
                compared += 1
        self.assertGreater(compared, 50)

    def test_no_excess_against_itself(self):
        for scale in random_scales(732, 30):
            for at in range(len(scale)):
                self.assertEqual(answered(excess, scale, at, scale, at), ("most", 0, []))
                self.assertIs(never_more(scale, at, anew(scale), at), True)


class PartsTest(unittest.TestCase):

    def test_a_policy_that_follows_a_plan(self):
        source = random.Random(741)
        for _ in range(80):
            scales, ways = random_houses(source)
            houses = Houses(scales, ways)
            place = source.choice(all_places(scales))
            row = random_row(source, 8)
            cost, plan = cheapest(houses, place, row)
            policy = Policy(houses, place)
            for year, claims in enumerate(row):
                policy[year] = claims
            # Without a change it costs what the scale of its house says.
            stayed = houses.scale_of(place[0]).paid(place[1], row)
            self.assertEqual(policy.total(len(row)), stayed)
            for year, house in enumerate(plan):
                policy.change(year, house)
            self.assertEqual(policy.total(len(row)), cost)
            self.assertEqual(houses.cost(place, row, plan), cost)
            # No row gains more than `gain` tells.
            told = gain(houses, place)
            if told[0] == "most":
                self.assertLessEqual(stayed - cost, told[1])
                self.assertEqual(changing.gain_potentials(houses, place)[(place[1], *place)], told[1])

    def test_one_way_at_the_start(self):
        # Who can change only at once gains at least what the excess tells, less the fee.
        source = random.Random(742)
        for one, start, other, begin in small_cases(743, 60):
            fee = source.randint(0, 5)
            houses = Houses([one, other], {(0, 1): ([begin] * len(one), fee)})
            told, against = gain(houses, (0, start)), excess(one, start, other, begin)
            if told[0] == "most":
                self.assertEqual(against[0], "most")
                self.assertGreaterEqual(told[1], against[1] - fee)

    def test_the_true_story_fits(self):
        source = random.Random(744)
        for scale in random_scales(745, 40):
            start, row = source.randrange(len(scale)), [source.randrange(scale.columns) for _ in range(6)]
            seen = Seen(scale, 6)
            classes = scale.classes(start, row)
            for year, at in enumerate(classes):
                if source.random() < 0.6:
                    seen.paid(year, scale.premium(at))
            self.assertIsNone(seen.clash())
            for year, at in enumerate(classes):
                self.assertIn(at, seen.possible(year))
            for year, claims in enumerate(row):
                self.assertIn(claims, seen.columns_in(year))
            self.assertTrue(sum(seen.fewest()[1]) <= sum(row) <= sum(seen.most()[1]))

    def test_one_claim_more_told_in_three_ways(self):
        # If one claim more never pays less in all, then its worth is never below 0.
        for scale in [case[0] for case in small_cases(746, 80)]:
            fair = fairness.unfair_sum(scale) is None
            least = min((reporting.worth(scale, at, claims, 12)[0] for at in range(len(scale))
                         for claims in range(scale.columns)))
            self.assertTrue(least == 0 or not fair)
            if least < 0:
                self.assertFalse(fair)
            if fairness.unfair_year(scale) is None:
                self.assertTrue(fair)

    def test_desks_given_the_same_in_other_ways(self):
        source = random.Random(747)
        for _ in range(30):
            scales = [random_scale(source, 3, 2, 9) for _ in range(2)]
            houses = Houses(scales, random_ways(source, scales, 1))
            rows = [(name, year, source.randint(0, 2)) for name in ("ann", "bo", "cy") for year in range(5)]
            told = []
            for order in itertools.permutations(("ann", "bo", "cy")):
                source.shuffle(rows)
                desk = Desk(houses)
                for name in order:
                    desk.take_in(name, (len(name) % 2, 0))
                    desk.news([row for row in rows if row[0] == name])
                    desk.move(name, 2, 0)
                    desk.move(name, 4, 1)
                desk.bill(2)
                desk.news([("bo", 1, 2)])
                told.append([desk.bill(4), desk.names(), desk.total(50), desk.taken(50),
                             [policy_told(desk.policy(name), 6) for name in desk.names()]])
            self.assertTrue(all(found == told[0] for found in told))


class ErrorsTest(unittest.TestCase):

    def test_each_error_is_raised_somewhere(self):
        scale = Scale([1, 2], [[0, 1], [0, 1]])
        houses = Houses([scale], {})
        policy = Policy(houses, (0, 0))
        policy.bill(3)
        desk = Desk(houses)
        desk.take_in("ann", (0, 0))
        found = {raised(deed)[0] for deed in (
            lambda: Scale([], []), lambda: Scale([1], [[1]]), lambda: scale(2, 0), lambda: scale(0, -1),
            lambda: renumbered(scale, []), lambda: Seen(scale, 61), lambda: orders.never_dearer(scale, [], []),
            lambda: reporting.report(scale, 0, 0), lambda: Houses([], {}), lambda: Houses([scale], None),
            lambda: houses.choices(0), lambda: houses.cost((0, 0), [], [0]), lambda: policy.bill(3),
            lambda: policy.correction(2), lambda: desk.take_in("", (0, 0)), lambda: desk.take_in("ann", (0, 0)),
            lambda: desk.drop("bo"), lambda: Desk(houses).undo())}
        # The rest belongs to the makers of scales.
        self.assertEqual({*ERRORS} - found, {"BadSteps", "TooMany"})
        self.assertTrue(issubclass(ClaimError, ValueError))


if __name__ == "__main__":
    unittest.main()
