"""Policies: the claims and the changes of a policy, its places year by year, and its bills."""

from claimclasses.changing import can_change, changed, check_house, check_place
from claimclasses.checks import MOST_YEARS, check_claims, check_years, is_integer
from claimclasses.errors import BadClaims, BadPlan, BadYears, Billed, NotBilled
from claimclasses.scales import led_to

LAST_YEAR = 999


def check_year(year):
    check_years(year, 0, LAST_YEAR)


class PolicyTrial:
    """A block behind which a policy has the claims, choices and bills that it had when the block began."""

    def __init__(self, policy):
        self.held = policy
        self.kept = policy

    def __enter__(self):
        self.kept = self.held.twin()
        return self.held

    def __exit__(self, kind, value, trace):
        self.held.claims = self.kept.claims
        self.held.picked = self.kept.picked
        self.held.sent = self.kept.sent


class Policy:
    """A policy of some houses: its claims and choices by years, and the bills that were made for it."""

    def __init__(self, houses, place):
        check_place(houses, place)
        self.houses = houses
        self.first = place
        # The years without claims, and those without a choice, may be left out.
        self.claims = {}
        self.picked = {}
        # Each bill is kept with its year, its amount, and the part of it that corrects earlier bills.
        self.sent = []

    def __getitem__(self, year):
        check_year(year)
        return self.claims.get(year, 0)

    def __setitem__(self, year, claims):
        check_year(year)
        check_claims(claims)
        self.claims[year] = claims

    def __iter__(self):
        raise TypeError("the years are read one by one")

    def change(self, year, house):
        """Lets the policy be in this house from the beginning of the year on."""
        check_year(year)
        check_house(self.houses, house)
        picked = dict(self.picked)
        picked[year] = house
        self.pick(picked)

    def stay(self, year):
        """Takes back the choice for a year, if there is one."""
        check_year(year)
        self.pick({other: house for other, house in self.picked.items() if other != year})

    def pick(self, picked):
        """Takes these choices, if the policy can make each of them."""
        house = self.first[0]
        for year in sorted(picked):
            if not can_change(self.houses, house, picked[year]):
                raise BadPlan()
            house = picked[year]
        self.picked = picked

    def course(self, years):
        """For each of so many years the house, the class there and the cost, as all is known now."""
        house, at = self.first
        told = []
        for year in range(years):
            to = self.picked.get(year, house)
            at, fee = changed(self.houses, house, at, to)
            house = to
            scale = self.houses.scales[house]
            told.append((house, at, scale.prices[at] + fee))
            at = led_to(scale.moves[at], self.claims.get(year, 0))
        return told

    def place_in(self, year):
        """The place of the policy in a year, behind the change at its beginning."""
        check_year(year)
        house, at, cost = self.course(year + 1)[year]
        return house, at

    def cost(self, year):
        """What a year costs."""
        check_year(year)
        return self.course(year + 1)[year][2]

    def total(self, years):
        """The sum of the costs of so many years."""
        check_years(years, 0, MOST_YEARS)
        return sum([cost for house, at, cost in self.course(years)])

    def billed_years(self):
        """The number of years that are billed."""
        return self.sent[-1][0] + 1 if self.sent else 0

    def bill(self, year):
        """Bills the years up to this one, less what was billed before."""
        check_year(year)
        if year < self.billed_years():
            raise Billed(self.billed_years() - 1)
        correction = self.owed()
        # What is still owed for the years billed before is billed together with the years behind them.
        amount = correction + self.total(year + 1) - self.total(self.billed_years())
        self.sent.append((year, amount, correction))
        return amount

    def bills_sent(self):
        """The years and amounts of all bills so far, in order."""
        return [(year, amount) for year, amount, correction in self.sent]

    def correction(self, year):
        """The part of the bill made with this year that belongs to years billed before."""
        for billed, amount, correction in self.sent:
            if is_integer(year) and year == billed:
                return correction
        raise NotBilled(year)

    def owed(self):
        """What the billed years cost, as all is known now, less what was billed for them."""
        return self.total(self.billed_years()) - sum([amount for year, amount in self.bills_sent()])

    def back_worth(self, year, years):
        """By how much less so many years behind this one cost if it has one claim less."""
        claims = self[year]
        if claims == 0:
            raise BadClaims(0)
        check_years(years, 0, MOST_YEARS)
        if year + years > LAST_YEAR:
            raise BadYears(years)
        other = self.twin()
        other[year] = claims - 1
        # Up to the year itself both cost the same.
        last = year + years + 1
        return self.total(last) - other.total(last)

    def trial(self):
        return PolicyTrial(self)

    def tried(self, deed):
        """What the deed returns; behind it the policy is as it was before it."""
        with self.trial() as held:
            return deed(held)

    def twin(self):
        """Another policy with the same houses, first place, claims, choices and bills."""
        other = Policy(self.houses, self.first)
        other.claims = dict(self.claims)
        other.picked = dict(self.picked)
        other.sent = list(self.sent)
        return other
