"""Desks: policies under names, the deeds by which they change, and taking these back."""

from claimclasses.checks import MOST_YEARS, check_years
from claimclasses.errors import BadName, NameTaken, NoPolicy, NothingToUndo
from claimclasses.policies import Policy, check_year

LETTERS = "abcdefghijklmnopqrstuvwxyz"
LONGEST_NAME = 12


def is_name(name):
    if not isinstance(name, str) or not 1 <= len(name) <= LONGEST_NAME:
        return False
    return all([letter in LETTERS for letter in name])


class DeskTrial:
    """A block behind which a desk has the policies, and the deeds to take back, that it had when the block began."""

    def __init__(self, desk):
        self.held = desk
        self.kept = {}
        self.ways_back = []

    def __enter__(self):
        self.kept = dict(self.held.policies)
        self.ways_back = list(self.held.backward)
        return self.held

    def __exit__(self, kind, value, trace):
        self.held.policies = self.kept
        self.held.backward = self.ways_back


class Desk:
    """Policies of some houses under names."""

    def __init__(self, houses):
        self.houses = houses
        # A policy that stands here is never changed: a deed puts another one in its place.
        self.policies = {}
        # For each deed that can be taken back, what stood before it under the names that it changed.
        self.backward = []

    def __contains__(self, name):
        return isinstance(name, str) and name in self.policies

    def __len__(self):
        return len(self.policies)

    def take_in(self, name, place):
        """Takes in a policy that is at this place before year 0."""
        if not is_name(name):
            raise BadName(name)
        if name in self.policies:
            raise NameTaken(name)
        self.do({name: Policy(self.houses, place)})

    def drop(self, name):
        """Removes a policy."""
        self.check_policy(name)
        self.do({name: None})

    def policy(self, name):
        """A twin of the policy with this name."""
        self.check_policy(name)
        return self.policies[name].twin()

    def names(self):
        return sorted(self.policies)

    def news(self, rows):
        """Takes in the claims of years that were told, in their order."""
        changes = {}
        for name, year, claims in rows:
            self.check_policy(name)
            if name not in changes:
                changes[name] = self.policies[name].twin()
            told = changes[name]
            told[year] = claims
        self.do(changes)

    def move(self, name, year, house):
        """Lets a policy be in this house from the beginning of the year on."""
        other = self.policy(name)
        other.change(year, house)
        self.do({name: other})

    def bill(self, year):
        """Bills the years up to this one for all policies that were not billed for it, or for a later one."""
        check_year(year)
        changes = {}
        amounts = {}
        for name in self.names():
            other = self.policy(name)
            if other.billed_years() <= year:
                amounts[name] = other.bill(year)
                changes[name] = other
        self.do(changes)
        return amounts

    def total(self, years):
        """The sum of the costs of so many years of all policies."""
        check_years(years, 0, MOST_YEARS)
        return sum([self.policies[name].total(years) for name in self.policies])

    def taken(self, years):
        """For each house the premiums of the policies that are there, and the fees that they pay for coming there."""
        check_years(years, 0, MOST_YEARS)
        sums = [0] * len(self.houses)
        for name in self.policies:
            for house, at, cost in self.policies[name].course(years):
                sums[house] += cost
        return sums

    def undo(self):
        """Takes back the last deed that has not been taken back."""
        if len(self.backward) == 0:
            raise NothingToUndo()
        self.put(self.backward.pop())

    def deeds(self):
        """The number of deeds that can be taken back."""
        return len(self.backward)

    def trial(self):
        return DeskTrial(self)

    def tried(self, deed):
        """What the deed returns; behind it the desk is as it was before it."""
        with self.trial() as held:
            return deed(held)

    def check_policy(self, name):
        if name not in self:
            raise NoPolicy(name)

    def do(self, changes):
        """Does a deed that can be taken back: puts these policies under their names."""
        self.backward.append({name: self.policies.get(name) for name in changes})
        self.put(changes)

    def put(self, changes):
        """Puts these policies under their names; None takes a name away."""
        for name in changes:
            if changes[name] is None:
                del self.policies[name]
            else:
                self.policies[name] = changes[name]
