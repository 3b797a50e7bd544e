"""The checks of callers' values that several files share."""

from claimclasses.errors import BadClaims, BadPremiums, BadYears, NoClass

MOST_CLASSES = 12
MOST_PREMIUM = 1000000
MOST_YEARS = 1000


def is_integer(value):
    # Python counts True and False among the integers, the document does not.
    return isinstance(value, int) and not isinstance(value, bool)


def is_between(value, low, high):
    return is_integer(value) and low <= value <= high


def is_list_of(value, fewest, most, high):
    """Whether this is a list of so many integers, each one from 0 to `high`."""
    if not isinstance(value, list) or not fewest <= len(value) <= most:
        return False
    return all([is_between(item, 0, high) for item in value])


def check_premiums(premiums):
    if not is_list_of(premiums, 1, MOST_CLASSES, MOST_PREMIUM):
        raise BadPremiums()


def check_class(scale, at):
    if at not in scale:
        raise NoClass(at)


def check_claims(claims):
    if not is_integer(claims) or claims < 0:
        raise BadClaims(claims)


def check_row(row):
    for claims in row:
        check_claims(claims)


def check_years(years, low, high):
    if not is_between(years, low, high):
        raise BadYears(years)
