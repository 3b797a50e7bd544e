"""Claims that are worth reporting: which damages to report, and what one claim more costs in later years."""

from claimclasses.checks import MOST_YEARS, check_class, check_years, is_integer
from claimclasses.errors import BadDamages
from claimclasses.pairs import by_years, excess


def is_damages(year):
    return isinstance(year, list) and all([is_integer(damage) and damage >= 0 for damage in year])


def check_damages(damages):
    if not isinstance(damages, list) or not all([is_damages(year) for year in damages]):
        raise BadDamages()


def borne(year, own):
    """What is borne of a year's damages, for each number of them that may be reported, the greatest ones first."""
    falling = sorted(year, reverse=True)
    shares = [min(own, damage) for damage in falling]
    return [sum(shares[:many]) + sum(falling[many:]) for many in range(len(year) + 1)]


def year_sums(scale, at, shares, amounts):
    """What a year in this class and the years behind it come to, for each number of damages that may be reported."""
    price = scale.premium(at)
    return [price + share + amounts[scale(at, many)] for many, share in enumerate(shares)]


def report(scale, start, damages, own=0, after=0):
    """The least sum that any choice of damages to report has, and how many to report in each year."""
    check_class(scale, start)
    paper = report_paper(scale, damages, own, after)
    row = []
    at = start
    for place, year in enumerate(damages):
        told = year_sums(scale, at, borne(year, own), paper[place + 1])
        row.append(told.index(min(told)))
        at = scale(at, row[-1])
    return paper[0][start], row


def report_paper(scale, damages, own=0, after=0):
    """The least sums from the beginning of each year on, and behind the last one, for each class."""
    check_damages(damages)
    check_years(after, 0, MOST_YEARS)
    paper = [[scale.paid(at, [0] * after) for at in range(len(scale))]]
    for year in reversed(list(damages)):
        shares = borne(year, own)
        paper.append([min(year_sums(scale, at, shares, paper[-1])) for at in range(len(scale))])
    return paper[::-1]


def later_classes(scale, at, claims):
    """The classes behind a year with one claim more, and behind one with just so many claims."""
    fewer = scale(at, claims)
    return scale(at, claims + 1), fewer


def worth(scale, at, claims, years):
    """The least and the greatest sum that one claim more costs in so many years behind this one."""
    more, fewer = later_classes(scale, at, claims)
    return by_years(scale, more, scale, fewer, years)[-1]


def worth_ever(scale, at, claims):
    """The greatest sum that one claim more ever costs, told as `excess` does."""
    more, fewer = later_classes(scale, at, claims)
    return excess(scale, more, scale, fewer)


def surely_worth(scale, at, claims, saved):
    """Whether one claim more that saves so much is never regretted."""
    told = worth_ever(scale, at, claims)
    return told[0] == "most" and told[1] <= saved


def never_worth(scale, at, claims, saved, years):
    """Whether a policy that stays for so many years never gains by one claim more that saves so much."""
    return worth(scale, at, claims, years)[0] >= saved
