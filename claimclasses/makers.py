"""Scales that are made from steps or from other scales."""

from claimclasses.checks import MOST_CLASSES, check_premiums, is_between, is_list_of
from claimclasses.errors import BadOrder, BadSteps, TooMany
from claimclasses.scales import Scale

MOST_STEPS = 12
MOST_UPS = 4


def check_many(count):
    if count > MOST_CLASSES:
        raise TooMany(count)


def by_steps(premiums, down, ups):
    """The scale in which years lead some classes up or down."""
    check_premiums(premiums)
    if not is_between(down, 0, MOST_STEPS) or not is_list_of(ups, 1, MOST_UPS, MOST_STEPS):
        raise BadSteps()
    last = len(premiums) - 1
    table = [[max(at - down, 0)] + [min(at + up, last) for up in ups] for at in range(len(premiums))]
    return Scale(premiums, table)


def protected(scale, years):
    """The scale in which one claim does not count behind so many years without a claim."""
    check_many(len(scale) * (years + 1))
    premiums = []
    table = []
    for at in range(len(scale)):
        for free in range(years + 1):
            premiums.append(scale.premium(at))
            table.append(protected_leads(scale, years, at, free))
    return Scale(premiums, table)


def protected_leads(scale, years, at, free):
    """Where a class leads, for a policy with so many years without a claim behind it."""
    # Just one claim needs a column of its own, beside none and beside more where these differ.
    columns = max(scale.columns, min(scale.columns + 1, 3))
    counted = 0 if free == years else 1
    leads = [scale(at, 0) * (years + 1) + min(free + 1, years), scale(at, counted) * (years + 1)]
    for claims in range(2, columns):
        leads.append(scale(at, claims) * (years + 1))
    return leads


def both(one, other):
    """The scale of two policies that have the same claims."""
    check_many(len(one) * len(other))
    columns = max(one.columns, other.columns)
    premiums = []
    table = []
    for at in range(len(one)):
        for by in range(len(other)):
            premiums.append(one.premium(at) + other.premium(by))
            table.append([one(at, claims) * len(other) + other(by, claims) for claims in range(columns)])
    return Scale(premiums, table)


def delayed(scale):
    """The scale in which the claims of each year count a year later."""
    columns = scale.columns
    check_many(len(scale) * columns)
    premiums = []
    table = []
    for at in range(len(scale)):
        for waiting in range(columns):
            premiums.append(scale.premium(at))
            table.append([scale(at, waiting) * columns + claims for claims in range(columns)])
    return Scale(premiums, table)


def renumbered(scale, order):
    """The scale in which class order[i] has the number i."""
    many = len(scale)
    if not is_list_of(order, many, many, many - 1) or sorted(order) != list(range(many)):
        raise BadOrder()
    table = scale.table()
    premiums = [scale.premium(at) for at in order]
    return Scale(premiums, [[order.index(to) for to in table[at]] for at in order])
