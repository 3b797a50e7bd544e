"""Points 3, 4 and 51 to 55: changing houses."""

import itertools
import random
import time
import unittest

from claimclasses.changing import (Houses, cheapest, cheapest_paper, gain, gain_potentials, is_cheapest_paper,
                                   is_gain_potentials, no_change_gains)
from claimclasses.scales import Scale
from tests.helpers import (DEAREST, HARSH, LARGE, LONELY, MILD, NO_INTEGERS, NO_LISTS, all_places, all_rows, answered,
                           come, is_row, led, long_ladders, raised, random_houses, random_row, random_scale,
                           random_ways, written, yearly_costs)

WAYS = {(0, 1): ([0, 0, 1], 5), (1, 0): ([0, 2], 5)}
NO_PLACES = (*NO_INTEGERS, 0, 1, "00", [0, 0], (0,), (0, 0, 0), (-1, 0), (2, 0), (0, 3), (1, 2), (0, -1), (LARGE, 0),
             (0, LARGE), (True, 0), (0, True), (0, False), (None, 0), (0, None), (0.0, 0), ("0", 0), ([], 0), (0, []),
             ((0, 0), 0), {0: 0, 1: 1}, {0, 1})


def both_houses():
    return Houses([MILD, HARSH], WAYS)


def all_cases(seed, many):
    """Scales and ways of houses, the houses, and a place."""
    source = random.Random(seed)
    cases = []
    for _ in range(many):
        scales, ways = random_houses(source)
        cases.append((scales, ways, Houses(scales, ways), source.choice(all_places(scales))))
    return cases


def all_plans(scales, ways, place, row):
    """All plans for a row that are possible, with what each costs."""
    plans = {}
    for plan in itertools.product(range(len(scales)), repeat=len(row)):
        told = yearly_costs(scales, ways, place, row, plan)
        if told is not None:
            plans[plan] = sum(told[0])
    return plans


def covers(scales, ways, place, row, cost, amounts):
    """Point 53, said once more without the program."""
    if len(amounts) != len(row) + 1 or any(key not in all_places(scales) for told in amounts for key in told):
        return False
    if place not in amounts[0] or amounts[0][place] != cost or any(amount > 0 for amount in amounts[-1].values()):
        return False
    for year, claims in enumerate(row):
        for key, amount in amounts[year].items():
            for to in range(len(scales)):
                found = yearly_costs(scales, ways, key, [claims], [to])
                if found is not None:
                    (spent,), behind = found
                    if behind not in amounts[year + 1] or amount > spent + amounts[year + 1][behind]:
                        return False
    return True


def stand_graph(scales, ways, place):
    """The stands to which two policies can come, each with the gains of a year and the stands behind it."""
    own, start = place
    columns = max(scale.columns for scale in scales)
    found = {}
    waiting = [(start, own, start)]
    while waiting:
        stand = waiting.pop()
        if stand in found:
            continue
        stays, house, at = stand
        found[stand] = []
        for to, claims in itertools.product(range(len(scales)), range(columns)):
            told = yearly_costs(scales, ways, (house, at), [claims], [to])
            if told is not None:
                (spent,), behind = told
                stand_behind = (led(scales[own], stays, claims), *behind)
                found[stand].append((scales[own].premiums()[stays] - spent, stand_behind))
                waiting.append(stand_behind)
    return found


def gains_by_years(leads, first):
    """For 0, 1, .. years the greatest gain behind so many, for each stand behind them; one year more than stands."""
    told = [{first: 0}]
    for _ in range(len(leads) + 1):
        behind = {}
        for stand, amount in told[-1].items():
            for add, to in leads[stand]:
                behind[to] = max(behind.get(to, amount + add), amount + add)
        told.append(behind)
    return told


def most_gain(scales, ways, place):
    """The amount of point 54 by a search of its own, with the number of years that it takes, or None."""
    leads = stand_graph(scales, ways, place)
    first = (place[1], place[0], place[1])
    told = gains_by_years(leads, first)
    best = {}
    # If as many years as there are stands still lead to a greater gain, a ring on the way adds to it.
    for years, behind in enumerate(told):
        for stand, amount in behind.items():
            if stand not in best or amount > best[stand]:
                if years >= len(leads):
                    return None
                best[stand] = amount
    greatest = [max(behind.values()) for behind in told]
    return max(greatest), greatest.index(max(greatest))


class HousesTest(unittest.TestCase):

    def test_houses(self):
        houses = both_houses()
        self.assertEqual(len(houses), 2)
        self.assertTrue(houses.scale_of(0).same(MILD))
        self.assertTrue(houses.scale_of(1).same(HARSH))
        self.assertEqual(len(Houses([LONELY], {})), 1)
        self.assertEqual(len(Houses([MILD, MILD, MILD, MILD], {})), 4)
        self.assertEqual(len(Houses([Scale([0] * 12, [[0]] * 12)], {})), 1)

    def test_choices(self):
        houses = both_houses()
        self.assertEqual(answered(houses.choices, (0, 0)), [(0, 0, 0), (1, 0, 5)])
        self.assertEqual(answered(houses.choices, (0, 2)), [(0, 2, 0), (1, 1, 5)])
        self.assertEqual(answered(houses.choices, (1, 1)), [(1, 1, 0), (0, 2, 5)])
        self.assertEqual(answered(Houses([MILD, HARSH], {}).choices, (0, 1)), [(0, 1, 0)])
        self.assertEqual(answered(Houses([MILD, HARSH], {(0, 1): ([0, 0, 1], 0)}).choices, (1, 1)), [(1, 1, 0)])

    def test_choices_of_all_places(self):
        for scales, ways, houses, _ in all_cases(511, 60):
            for house, at in all_places(scales):
                others = [(to, *come(ways, (house, at), to)) for to in range(len(scales))
                          if to != house and (house, to) in ways]
                self.assertEqual(answered(houses.choices, (house, at)),
                                 [(house, at, 0)] + [(to, place[1], fee) for to, place, fee in others])

    def test_the_own_house_stands_first(self):
        ways = {(2, 3): ([0], 9), (2, 0): ([0], 1000000), (2, 1): ([0], 0)}
        houses = Houses([LONELY, LONELY, LONELY, DEAREST], ways)
        self.assertEqual(answered(houses.choices, (2, 0)), [(2, 0, 0), (0, 0, 1000000), (1, 0, 0), (3, 0, 9)])

    def test_what_was_passed_may_be_changed_afterwards(self):
        scales = [MILD, HARSH]
        classes = [0, 0, 1]
        ways = {(0, 1): (classes, 5), (1, 0): ([0, 2], 5)}
        houses = Houses(scales, ways)
        before = written(houses)
        classes[0] = 1
        ways[(0, 1)] = ([1, 1, 1], 7)
        del ways[(1, 0)]
        scales.append(LONELY)
        scales[0] = DEAREST
        self.assertEqual(written(houses), before)
        houses.choices((0, 0)).clear()
        self.assertEqual(written(houses), before)

    def test_arguments_stay_as_they_are(self):
        ways = {ends: (list(classes), fee) for ends, (classes, fee) in WAYS.items()}
        scales = [MILD, HARSH]
        houses = Houses(scales, ways)
        houses.choices((0, 0))
        houses.cost((0, 0), [1, 0], [1, 0])
        self.assertEqual((ways, len(scales)), (WAYS, 2))

    def test_bad_houses(self):
        large = Scale([0] * 12, [[0]] * 12)
        for bad in (*NO_LISTS, [], [None], [MILD, None], [MILD, [0]], [[0], [[0]]], ["MILD"], [Scale], [1], (MILD,),
                    [LONELY] * 5, [large, LONELY], [large, large], [MILD] * 5, {0: MILD}, MILD):
            self.assertEqual(raised(Houses, bad, {}), ("BadHouses",), bad)
            self.assertEqual(raised(Houses, bad, None), ("BadHouses",), bad)

    def test_twelve_classes_together(self):
        six = Scale([0] * 6, [[0]] * 6)
        self.assertEqual(len(Houses([six, six], {})), 2)
        self.assertEqual(raised(Houses, [six, six, LONELY], {}), ("BadHouses",))
        self.assertEqual(len(Houses([MILD] * 4, random_ways(random.Random(0), [MILD] * 4, 1))), 4)

    def test_ways_that_are_no_dict(self):
        for bad in (None, True, 0, "", (), [], [(0, 1)], {0}, {(0, 1)}, [((0, 1), ([0, 0, 1], 5))], dict):
            self.assertEqual(raised(Houses, [MILD, HARSH], bad), ("BadWays",), bad)

    def test_ways_with_bad_ends(self):
        for bad in (0, None, "01", (0,), (0, 1, 0), (0, 0), (1, 1), (0, 2), (2, 0), (-1, 0), (0, -1), (LARGE, 0),
                    (True, 0), (0, True), (False, 1), (1, False), (0.0, 1), ("0", 1), (None, 1), ((0,), 1), b"01"):
            for told in (([0, 0, 1], 5), ([0, 2], 5)):
                self.assertEqual(raised(Houses, [MILD, HARSH], {bad: told}), ("BadWays",), bad)
                if bad not in WAYS:
                    self.assertEqual(raised(Houses, [MILD, HARSH], {**WAYS, bad: told}), ("BadWays",), bad)
        self.assertEqual(raised(Houses, [MILD], {(0, 0): ([0, 1, 2], 0)}), ("BadWays",))

    def test_ways_with_bad_classes(self):
        for bad in (*NO_LISTS, [], [0], [0, 0], [0, 0, 1, 1], [0, 0, 2], [0, 0, -1], [0, 0, LARGE], [0, 0, True],
                    [0, None, 0], [0.0, 0, 0], [0, 0, [1]], ["0", 0, 0]):
            self.assertEqual(raised(Houses, [MILD, HARSH], {(0, 1): (bad, 5)}), ("BadWays",), bad)
            self.assertEqual(raised(Houses, [MILD, HARSH], {(1, 0): ([0, 2], 5), (0, 1): (bad, 5)}), ("BadWays",), bad)
        # A list that fits the other way does not fit this one.
        self.assertEqual(raised(Houses, [MILD, HARSH], {(0, 1): ([0, 2], 5)}), ("BadWays",))
        self.assertEqual(raised(Houses, [MILD, HARSH], {(1, 0): ([0, 0, 1], 5)}), ("BadWays",))

    def test_ways_with_bad_fees(self):
        for bad in (*NO_INTEGERS, -1, 1000001, LARGE, -LARGE):
            self.assertEqual(raised(Houses, [MILD, HARSH], {(0, 1): ([0, 0, 1], bad)}), ("BadWays",), bad)
        for fee in (0, 1000000):
            self.assertEqual(Houses([MILD, HARSH], {(0, 1): ([0, 0, 1], fee)}).choices((0, 0))[1], (1, 0, fee))

    def test_ways_with_bad_values(self):
        for bad in (None, 0, [], [[0, 0, 1], 5], ([0, 0, 1],), ([0, 0, 1], 5, 0), (5, [0, 0, 1]), [0, 0, 1], "05", {}):
            self.assertEqual(raised(Houses, [MILD, HARSH], {(0, 1): bad}), ("BadWays",), bad)

    def test_no_places(self):
        houses = both_houses()
        for bad in (*NO_INTEGERS, -1, 2, LARGE, (0, 0), [0]):
            self.assertEqual(raised(houses.scale_of, bad), ("NoPlace", bad))
        for bad in NO_PLACES:
            self.assertEqual(raised(houses.choices, bad), ("NoPlace", bad))
            self.assertEqual(raised(houses.cost, bad, [-1], None), ("NoPlace", bad))
            self.assertEqual(raised(cheapest, houses, bad, [-1]), ("NoPlace", bad))
            self.assertEqual(raised(cheapest_paper, houses, bad, [-1]), ("NoPlace", bad))
            self.assertEqual(raised(is_cheapest_paper, houses, bad, [-1], 0, [{}]), ("NoPlace", bad))
            for deed in (gain, no_change_gains, gain_potentials):
                self.assertEqual(raised(deed, houses, bad), ("NoPlace", bad))
            self.assertEqual(raised(is_gain_potentials, houses, bad, {}), ("NoPlace", bad))

    def test_bad_claims(self):
        houses = both_houses()
        for bad in (-1, -LARGE, *NO_INTEGERS):
            self.assertEqual(raised(houses.cost, (0, 0), [1, bad, -5], None), ("BadClaims", bad))
            self.assertEqual(raised(cheapest, houses, (0, 0), [1, bad, -5]), ("BadClaims", bad))
            self.assertEqual(raised(cheapest_paper, houses, (0, 0), [bad]), ("BadClaims", bad))
            self.assertEqual(raised(is_cheapest_paper, houses, (0, 0), [bad], 0, []), ("BadClaims", bad))


class CostTest(unittest.TestCase):

    def test_random_plans(self):
        source = random.Random(521)
        kinds = []
        for scales, ways, houses, place in all_cases(522, 250):
            row = random_row(source, 6)
            plan = [source.randrange(len(scales)) for _ in row]
            told = yearly_costs(scales, ways, place, row, plan)
            kinds.append(told is None)
            if told is None:
                self.assertEqual(raised(houses.cost, place, row, plan), ("BadPlan",))
            else:
                self.assertEqual(answered(houses.cost, place, row, plan), sum(told[0]))
        self.assertGreater(min(kinds.count(True), kinds.count(False)), 50)

    def test_edges(self):
        houses = both_houses()
        self.assertEqual(answered(houses.cost, (0, 0), [1, 0], [0, 0]), 230)
        self.assertEqual(answered(houses.cost, (0, 0), [1, 0], [1, 0]), 260)
        self.assertEqual(answered(houses.cost, (0, 2), [], []), 0)
        # The change comes before the premium, in the first year, too.
        self.assertEqual(answered(houses.cost, (0, 2), [LARGE], [1]), 205)
        self.assertEqual(answered(houses.cost, (1, 1), [0], [0]), 165)
        # The way back is one of its own.
        one_way = Houses([MILD, HARSH], {(0, 1): ([0, 0, 1], 1000000)})
        self.assertEqual(answered(one_way.cost, (0, 0), [0, 0], [1, 1]), 1000180)
        self.assertEqual(raised(one_way.cost, (0, 0), [0, 0], [1, 0]), ("BadPlan",))

    def test_bad_plans(self):
        houses = both_houses()
        for bad in (*NO_LISTS, [], [0], [0, 0, 0], [0, 2], [-1, 0], [0, LARGE], [0, None], [True, 0], [0, False],
                    [0.0, 0], ["0", 0], [[0], 0], [(0, 0), 0]):
            self.assertEqual(raised(houses.cost, (0, 0), [1, 0], bad), ("BadPlan",), bad)
        self.assertEqual(raised(houses.cost, (0, 0), [], [0]), ("BadPlan",))
        self.assertEqual(raised(Houses([MILD, HARSH], {}).cost, (0, 0), [0], [1]), ("BadPlan",))


class CheapestTest(unittest.TestCase):

    def check(self, scales, ways, houses, place, row):
        """What is told, looked at by a walk year by year; returns the cost."""
        told = answered(cheapest, houses, place, row)
        self.assertEqual((type(told), len(told)), (tuple, 2))
        cost, plan = told
        self.assertTrue(type(cost) is int and is_row(plan))
        self.assertEqual(len(plan), len(row))
        self.assertEqual(sum(yearly_costs(scales, ways, place, row, plan)[0]), cost)
        self.assertEqual(houses.cost(place, row, plan), cost)
        paper = answered(cheapest_paper, houses, place, row)
        self.assertEqual(paper[0][place], cost)
        self.assertTrue(covers(scales, ways, place, row, cost, paper))
        self.assertIs(answered(is_cheapest_paper, houses, place, row, cost, paper), True)
        return cost

    def test_all_plans_of_a_few_years(self):
        source = random.Random(531)
        changing = 0
        for scales, ways, houses, place in all_cases(532, 150):
            row = random_row(source, 4)
            plans = all_plans(scales, ways, place, row)
            cost = self.check(scales, ways, houses, place, row)
            self.assertEqual(cost, min(plans.values()))
            changing += cost < plans[(place[0],) * len(row)]
        self.assertGreater(changing, 15)

    def test_edges(self):
        houses = both_houses()
        self.assertEqual(answered(cheapest, houses, (0, 1), [0, 0]), (185, [1, 1]))
        self.assertEqual(answered(cheapest, houses, (0, 1), []), (0, []))
        self.assertEqual(answered(cheapest, Houses([MILD], {}), (0, 1), [0, LARGE, 1]), (130 + 100 + 130, [0, 0, 0]))
        # Two houses with the same scale, and a free way that leads down.
        twins = Houses([MILD, MILD], {(0, 1): ([0, 0, 0], 0), (1, 0): ([0, 0, 0], 0)})
        self.assertEqual(answered(cheapest, twins, (0, 2), [1, 1, 1]), (300, [1, 0, 1]))
        # A fee that is too dear is never paid.
        dear = Houses([DEAREST, LONELY], {(0, 1): ([0], 1000000)})
        self.assertEqual(answered(cheapest, dear, (0, 0), [0])[0], 1000000)
        self.assertEqual(answered(cheapest, dear, (0, 0), [0, 0]), (1000000, [1, 1]))

    def test_a_loss_first(self):
        # The dear first year in the other house leads to a cheap one for good.
        other = Scale([50, 0], [[1], [1]])
        houses = Houses([Scale([10], [[0]]), other], {(0, 1): ([0], 10)})
        self.assertEqual(answered(cheapest, houses, (0, 0), [0] * 5), (50, [0] * 5))
        self.assertEqual(answered(cheapest, houses, (0, 0), [0] * 7), (60, [1] * 7))

    def test_papers_that_were_changed_a_little(self):
        source = random.Random(533)
        found = []
        for scales, ways, houses, place in all_cases(534, 120):
            row = random_row(source, 3)
            cost, _ = cheapest(houses, place, row)
            for _ in range(6):
                paper = [{key: told[key] for key in told} for told in cheapest_paper(houses, place, row)]
                told = source.choice(paper)
                key = source.choice(sorted(told))
                kind = source.randrange(4)
                if kind == 0:
                    told[key] += source.choice([-2, -1, 1, 2, LARGE, -LARGE])
                elif kind == 1:
                    del told[key]
                elif kind == 2:
                    told[source.choice([*all_places(scales), (len(scales), 0), (0, -1), (-1, 0)])] = source.randint(-9, 0)
                asked = cost + source.choice([0, 0, 0, 1, -1])
                if asked < cost and source.random() < 0.5:
                    paper[0][place] = asked
                found.append(answered(is_cheapest_paper, houses, place, row, asked, paper))
                self.assertIs(found[-1], covers(scales, ways, place, row, asked, paper))
        self.assertGreater(min(found.count(True), found.count(False)), 50)

    def test_papers_that_show_nothing(self):
        houses = both_houses()
        paper = cheapest_paper(houses, (0, 1), [0, 0])
        self.assertIs(is_cheapest_paper(houses, (0, 1), [0, 0], 185, paper[:2]), False)
        self.assertIs(is_cheapest_paper(houses, (0, 1), [0, 0], 185, [*paper, {}]), False)
        self.assertIs(is_cheapest_paper(houses, (0, 1), [0, 0], 184, paper), False)
        self.assertIs(is_cheapest_paper(houses, (0, 1), [0, 0], 186, paper), False)
        self.assertIs(is_cheapest_paper(houses, (0, 1), [0, 0], 185, []), False)
        self.assertIs(is_cheapest_paper(houses, (0, 1), [0, 0], 185, [{}, {}, {}]), False)
        # Lesser amounts show that no plan costs less than they tell.
        lesser = [{key: told[key] - 7 for key in told} for told in paper]
        self.assertIs(is_cheapest_paper(houses, (0, 1), [0, 0], 178, lesser), True)
        self.assertIs(is_cheapest_paper(houses, (0, 1), [0, 0], 185, lesser), False)
        greater = [{key: told[key] + 7 for key in told} for told in paper]
        self.assertIs(is_cheapest_paper(houses, (0, 1), [0, 0], 192, greater), False)
        self.assertIs(is_cheapest_paper(houses, (0, 1), [], 0, [{(0, 1): 0}]), True)
        self.assertIs(is_cheapest_paper(houses, (0, 1), [], -3, [{(0, 1): -3}]), True)
        self.assertIs(is_cheapest_paper(houses, (0, 1), [], 1, [{(0, 1): 1}]), False)


class GainTest(unittest.TestCase):

    def check(self, scales, ways, houses, place):
        """What is told, looked at by walks year by year; returns the amount, or None."""
        told = answered(gain, houses, place)
        own, start = place

        def walk(stand, row, plan):
            stays, house, at = stand
            spent, behind = yearly_costs(scales, ways, (house, at), row, plan)
            stayed, then = yearly_costs(scales, {}, (own, stays), row, [own] * len(row))
            return sum(stayed) - sum(spent), (then[1], *behind)

        self.assertIs(type(told), tuple)
        self.assertTrue(all(is_row(row) for row in told[1 + (told[0] == "most"):]))
        first = (start, own, start)
        if told[0] == "endless":
            _, front, front_plan, ring, ring_plan = told
            self.assertTrue(len(front) == len(front_plan) and len(ring) == len(ring_plan) > 0)
            _, stand = walk(first, front, front_plan)
            gained, behind = walk(stand, ring, ring_plan)
            self.assertEqual(behind, stand)
            self.assertGreater(gained, 0)
            return None
        kind, amount, row, plan = told
        self.assertEqual((kind, type(amount), len(row)), ("most", int, len(plan)))
        self.assertEqual(walk(first, row, plan)[0], amount)
        self.assertEqual(most_gain(scales, ways, place), (amount, len(row)))
        return amount

    def test_small_houses(self):
        found = []
        for scales, ways, houses, place in all_cases(541, 300):
            amount = self.check(scales, ways, houses, place)
            found.append(amount)
            self.assertEqual(amount is None, most_gain(scales, ways, place) is None)
            self.assertIs(answered(no_change_gains, houses, place), amount == 0)
        self.assertGreater(found.count(None), 20)
        self.assertGreater(found.count(0), 50)
        self.assertGreater(len([amount for amount in found if amount]), 10)

    def test_all_rows_and_plans_of_a_few_years(self):
        for scales, ways, houses, place in all_cases(542, 60):
            told = gain(houses, place)
            if told[0] == "most":
                columns = max(scale.columns for scale in scales)
                for years in range(4):
                    for row in all_rows(columns, years):
                        plans = all_plans(scales, ways, place, row)
                        found = plans[(place[0],) * years] - min(plans.values())
                        self.assertTrue(found < told[1] or found == told[1] and years >= len(told[2]))

    def test_edges(self):
        self.assertEqual(answered(gain, Houses([MILD], {}), (0, 2)), ("most", 0, [], []))
        self.assertEqual(answered(gain, Houses([LONELY, DEAREST], {(0, 1): ([0], 0)}), (0, 0)), ("most", 0, [], []))
        self.assertEqual(answered(gain, both_houses(), (0, 0))[0], "endless")
        self.assertIs(answered(no_change_gains, Houses([MILD], {}), (0, 2)), True)
        self.assertIs(answered(no_change_gains, Houses([MILD, MILD], {(0, 1): ([0, 0, 0], 0)}), (0, 1)), False)
        # The fee takes as much as the year saves, or just less than two years save.
        for fee, amount in ((30, 0), (29, 1), (0, 30)):
            houses = Houses([MILD, Scale([100], [[0]])], {(0, 1): ([0] * 3, fee)})
            self.assertEqual(answered(houses.choices, (0, 1)), [(0, 1, 0), (1, 0, fee)])
            self.assertIsNone(self.check([MILD, Scale([100], [[0]])], {(0, 1): ([0] * 3, fee)}, houses, (0, 1)))
            scales = [Scale([100, 130], [[0], [0]]), Scale([100], [[0]])]
            ways = {(0, 1): ([0, 0], fee)}
            self.assertEqual(self.check(scales, ways, Houses(scales, ways), (0, 1)), amount)
            self.assertEqual(self.check(scales, ways, Houses(scales, ways), (0, 0)), 0)

    def test_columns_that_only_another_house_has(self):
        # Only three claims lead to the free class of the other house.
        other = Scale([10, 0], [[0, 0, 0, 1], [0, 0, 0, 0]])
        scales, ways = [Scale([10], [[0]]), other], {(0, 1): ([0], 15)}
        self.assertIsNone(self.check(scales, ways, Houses(scales, ways), (0, 0)))
        scales, ways = [Scale([10], [[0]]), Scale([10, 0, 10], [[0, 0, 0, 1], [2] * 4, [2] * 4])], {(0, 1): ([0], 4)}
        self.assertEqual(self.check(scales, ways, Houses(scales, ways), (0, 0)), 6)

    def test_the_other_house_alone_counts(self):
        # The own house has no way, so what the others would save does not matter.
        scales, ways = [DEAREST, LONELY, LONELY], {(1, 0): ([0], 0), (1, 2): ([0], 0), (2, 1): ([0], 0)}
        self.assertEqual(self.check(scales, ways, Houses(scales, ways), (0, 0)), 0)


class GainPotentialsTest(unittest.TestCase):

    def is_proof(self, scales, ways, place, amounts):
        """Point 55, said once more without the program."""
        leads = stand_graph(scales, ways, place)
        if sorted(amounts) != sorted(leads) or min(amounts.values()) < 0:
            return False
        if any(amounts[stand] < add + amounts[to] for stand in leads for add, to in leads[stand]):
            return False
        most = most_gain(scales, ways, place)
        return most is not None and amounts[(place[1], place[0], place[1])] == most[0]

    def test_small_houses(self):
        source = random.Random(551)
        kinds, found = [], []
        for scales, ways, houses, place in all_cases(552, 200):
            amounts = answered(gain_potentials, houses, place)
            kinds.append(amounts is None)
            if amounts is None:
                self.assertIsNone(most_gain(scales, ways, place))
                zeros = {stand: 0 for stand in stand_graph(scales, ways, place)}
                self.assertIs(answered(is_gain_potentials, houses, place, zeros), False)
                continue
            self.assertTrue(self.is_proof(scales, ways, place, amounts))
            self.assertTrue(all(type(stand) is tuple and len(stand) == 3 for stand in amounts))
            self.assertIs(answered(is_gain_potentials, houses, place, amounts), True)
            for _ in range(4):
                stand = source.choice([*sorted(amounts), (0, len(scales), 0), (place[1], place[0], -1)])
                changed = {**amounts, stand: amounts.get(stand, 0) + source.choice([-1, 1, 2, LARGE])}
                found.append(answered(is_gain_potentials, houses, place, changed))
                self.assertIs(found[-1], self.is_proof(scales, ways, place, changed))
            fewer = {key: amounts[key] for key in amounts if key != stand}
            self.assertIs(is_gain_potentials(houses, place, fewer), self.is_proof(scales, ways, place, fewer))
            self.assertIs(is_gain_potentials(houses, place, {}), False)
        self.assertGreater(min(kinds.count(True), kinds.count(False)), 10)
        self.assertGreater(min(found.count(True), found.count(False)), 30)

    def test_edges(self):
        self.assertEqual(answered(gain_potentials, Houses([MILD], {}), (0, 2)),
                         {(at, 0, at): 0 for at in range(3)})
        self.assertEqual(answered(gain_potentials, Houses([LONELY], {}), (0, 0)), {(0, 0, 0): 0})
        self.assertIsNone(answered(gain_potentials, both_houses(), (0, 0)))
        scales = [Scale([100, 130], [[0], [0]]), Scale([100], [[0]])]
        houses = Houses(scales, {(0, 1): ([0, 0], 10)})
        self.assertEqual(answered(gain_potentials, houses, (0, 1))[(1, 0, 1)], 20)
        # All amounts one greater still keep each year, but tell too great a gain.
        amounts = gain_potentials(houses, (0, 1))
        greater = {stand: amounts[stand] + 1 for stand in amounts}
        self.assertIs(answered(is_gain_potentials, houses, (0, 1), greater), False)


class LargeHousesTest(unittest.TestCase):

    def test_twelve_classes_and_long_rows_are_answered_soon(self):
        began = time.perf_counter()
        source = random.Random(561)
        for sizes in ([3, 3, 3, 3], [6, 6], [4, 4, 4], [11, 1], [9, 1, 1, 1], [12]):
            scales = [random_scale(source, size, 5) for size in sizes]
            ways = random_ways(source, scales, 1)
            houses = Houses(scales, ways)
            row = [source.randrange(6) for _ in range(1500)]
            cost, plan = cheapest(houses, (0, 0), row)
            paper = cheapest_paper(houses, (0, 0), row)
            self.assertIs(is_cheapest_paper(houses, (0, 0), row, cost, paper), True)
            self.assertEqual(houses.cost((0, 0), row, plan), cost)
            gain(houses, (0, 0))
            no_change_gains(houses, (0, 0))
            amounts = gain_potentials(houses, (0, 0))
            if amounts is not None:
                self.assertIs(is_gain_potentials(houses, (0, 0), amounts), True)
        self.assertLess(time.perf_counter() - began, 20)

    def test_large_houses_with_a_gain_that_ends(self):
        # The other house is dearer in each class, and its ways lead back for a fee.
        mild, _ = long_ladders()
        small = Scale(mild.premiums()[:6], [[min(to, 5) for to in leads] for leads in mild.table()[:6]])
        ways = {(0, 1): ([5, 0, 0, 0, 0, 0], 400000), (1, 0): ([5] * 6, 1000000)}
        scales = [small, small + 100]
        houses = Houses(scales, ways)
        for at in range(6):
            told = gain(houses, (0, at))
            amounts = gain_potentials(houses, (0, at))
            self.assertEqual(told[0] == "most", amounts is not None)
            self.assertEqual(most_gain(scales, ways, (0, at)), (told[1], len(told[2])) if told[0] == "most" else None)


if __name__ == "__main__":
    unittest.main()
