"""Changing houses: insurers with their scales and the ways between them, plans for rows of claims, and what they gain.

A stand has the class of a policy that stays in its house and the place of one that follows a plan. A step is a choice
of the second one at the beginning of a year, with the claims of both in this year. The walks of claimclasses/pairs.py
lead through stands by the numbers of steps as they lead through pairs of classes by columns.
"""

from claimclasses.checks import MOST_CLASSES, MOST_PREMIUM, check_row, is_between, is_list_of
from claimclasses.errors import BadHouses, BadPlan, BadWays, NoPlace
from claimclasses.pairs import explored, greatest_told, least_amounts, shows_greatest
from claimclasses.scales import Scale

MOST_HOUSES = 4


def are_scales(scales):
    """Whether these are the scales of 1 to 4 houses."""
    if not isinstance(scales, list) or not 1 <= len(scales) <= MOST_HOUSES:
        return False
    if not all([isinstance(scale, Scale) for scale in scales]):
        return False
    return sum([len(scale) for scale in scales]) <= MOST_CLASSES


def is_pair(value):
    return isinstance(value, tuple) and len(value) == 2


def is_way(scales, ends, told):
    """Whether these are two different houses, and the classes and the fee of the way from one to the other."""
    if not is_pair(ends) or not is_pair(told):
        return False
    house, to = ends
    classes, fee = told
    last = len(scales) - 1
    if not is_between(house, 0, last) or not is_between(to, 0, last) or house == to:
        return False
    many = len(scales[house])
    return is_list_of(classes, many, many, len(scales[to]) - 1) and is_between(fee, 0, MOST_PREMIUM)


class Houses:
    """1 to 4 houses, each with a scale, and the ways by which a policy can change from one to another one."""

    def __init__(self, scales, ways):
        if not are_scales(scales):
            raise BadHouses()
        if not isinstance(ways, dict) or not all([is_way(scales, ends, told) for ends, told in ways.items()]):
            raise BadWays()
        self.scales = list(scales)
        self.ways = {ends: (list(classes), fee) for ends, (classes, fee) in ways.items()}

    def __len__(self):
        return len(self.scales)

    def scale_of(self, house):
        check_house(self, house)
        return self.scales[house]

    def choices(self, place):
        """The houses in which a policy at this place can be next, with its class there and the fee of the way."""
        check_place(self, place)
        own, at = place
        found = [(own, at, 0)]
        for to in range(len(self.scales)):
            if (own, to) in self.ways:
                by, fee = changed(self, own, at, to)
                found.append((to, by, fee))
        return found

    def cost(self, place, row, plan):
        """The premiums and fees of a policy that follows the plan."""
        check_place(self, place)
        check_row(row)
        check_plan(self, place[0], plan, len(row))
        house, at = place
        total = 0
        for to, claims in zip(plan, row):
            at, fee = changed(self, house, at, to)
            house = to
            scale = self.scales[house]
            total += fee + scale.premium(at)
            at = scale(at, claims)
        return total


def check_house(houses, house):
    if not is_between(house, 0, len(houses) - 1):
        raise NoPlace(house)


def is_place(houses, place):
    if not is_pair(place):
        return False
    house, at = place
    return is_between(house, 0, len(houses) - 1) and at in houses.scale_of(house)


def check_place(houses, place):
    if not is_place(houses, place):
        raise NoPlace(place)


def can_change(houses, house, to):
    """Whether a policy of one house can be in this house next: it stays, or there is a way."""
    return house == to or (house, to) in houses.ways


def changed(houses, house, at, to):
    """The class into which a policy comes that is in one house and can be in this house next, and the fee."""
    if house == to:
        return at, 0
    classes, fee = houses.ways[(house, to)]
    return classes[at], fee


def check_plan(houses, house, plan, years):
    if not isinstance(plan, list) or len(plan) != years:
        raise BadPlan()
    for to in plan:
        if not is_between(to, 0, len(houses) - 1) or not can_change(houses, house, to):
            raise BadPlan()
        house = to


def behind_year(houses, place, claims):
    """For each choice at this place what the year costs, and the place behind it."""
    told = []
    for house, at, fee in houses.choices(place):
        scale = houses.scale_of(house)
        told.append((fee + scale.premium(at), (house, scale(at, claims))))
    return told


def with_rest(houses, place, claims, rest):
    """For each choice at this place what the year costs, together with what `rest` has for the place behind it."""
    return [cost + rest[to] for cost, to in behind_year(houses, place, claims)]


def places_on(houses, place, row):
    """For the beginning of each year and for the end the places to which a policy can come by then."""
    found = [[place]]
    for claims in row:
        found.append(sorted({to for at in found[-1] for cost, to in behind_year(houses, at, claims)}))
    return found


def cheapest(houses, place, row):
    """The least cost that a plan has for this row of claims, and such a plan."""
    rests = cheapest_paper(houses, place, row)
    plan = []
    at = place
    for year, claims in enumerate(row):
        number = with_rest(houses, at, claims, rests[year + 1]).index(rests[year][at])
        at = behind_year(houses, at, claims)[number][1]
        plan.append(at[0])
    return rests[0][place], plan


def cheapest_paper(houses, place, row):
    """The least costs from the beginning of each year on, and at the end, by the places to which a policy can come."""
    check_place(houses, place)
    check_row(row)
    places = places_on(houses, place, row)
    rests = [{at: 0 for at in places[-1]}]
    for year in reversed(range(len(row))):
        rests.append({at: min(with_rest(houses, at, row[year], rests[-1])) for at in places[year]})
    return rests[::-1]


def is_cheapest_paper(houses, place, row, cost, amounts):
    """Whether these amounts of places show that no plan costs less than `cost`."""
    check_place(houses, place)
    check_row(row)
    if len(amounts) != len(row) + 1 or not all([is_place(houses, key) for told in amounts for key in told]):
        return False
    if amounts[0].get(place) != cost or not all([amounts[-1][key] <= 0 for key in amounts[-1]]):
        return False
    years = list(range(len(row)))
    return all([is_covered(houses, key, row[year], amounts[year][key], amounts[year + 1])
                for year in years for key in amounts[year]])


def is_covered(houses, place, claims, amount, rest):
    """Whether each choice leads to a place with an amount, and with this amount costs at least so much."""
    return all([to in rest and amount <= cost + rest[to] for cost, to in behind_year(houses, place, claims)])


def stand_years(houses, own, stand):
    """For each step from this stand the house, the claims, what the year adds to the gain, and the stand behind it.

    The first policy stays in the house `own`.
    """
    stays, house, at = stand
    home = houses.scale_of(own)
    columns = max([scale.columns for scale in houses.scales])
    told = []
    for to, by, fee in houses.choices((house, at)):
        scale = houses.scale_of(to)
        add = home.premium(stays) - fee - scale.premium(by)
        for claims in range(columns):
            told.append((to, claims, add, (home(stays, claims), to, scale(by, claims))))
    return told


def first_stand(houses, place):
    check_place(houses, place)
    own, at = place
    return at, own, at


def stand_moves(houses, first):
    """The stands to which two policies can come, each with those to which the steps lead, and what the steps add."""
    own = first[1]
    moves = explored(first, lambda stand: [told[3] for told in stand_years(houses, own, stand)])
    adds = {stand: [told[2] for told in stand_years(houses, own, stand)] for stand in moves}
    return moves, adds


def told_steps(houses, own, stand, steps):
    """The claims and the plan of these steps from this stand, and the stand behind them."""
    row = []
    plan = []
    at = stand
    for step in steps:
        house, claims, add, at = stand_years(houses, own, at)[step]
        row.append(claims)
        plan.append(house)
    return row, plan, at


def gain(houses, place):
    """By how much a plan can ever be cheaper than to stay, with a row and a plan, or with a ring by which it grows."""
    first = first_stand(houses, place)
    own = first[1]
    moves, adds = stand_moves(houses, first)
    found = greatest_told(moves, adds, first)
    if found[0] == "most":
        row, plan, stand = told_steps(houses, own, first, found[2])
        return "most", found[1], row, plan
    front, front_plan, stand = told_steps(houses, own, first, found[1])
    ring, ring_plan, again = told_steps(houses, own, stand, found[2])
    return "endless", front, front_plan, ring, ring_plan


def no_change_gains(houses, place):
    """Whether to stay never costs more than any plan."""
    return gain(houses, place)[:2] == ("most", 0)


def gain_potentials(houses, place):
    """Amounts of the stands that show why no gain is greater, or None if it can grow without end."""
    moves, adds = stand_moves(houses, first_stand(houses, place))
    return least_amounts(moves, adds)


def is_gain_potentials(houses, place, amounts):
    """Whether these amounts of stands show why no gain is greater than the greatest one."""
    first = first_stand(houses, place)
    moves, adds = stand_moves(houses, first)
    return shows_greatest(moves, adds, first, amounts)
