"""Orders of claims: which orders of the same claims cost least or most, and which rows are never dearer."""

from claimclasses.alike import parting_row
from claimclasses.checks import MOST_YEARS, check_claims, check_class, check_row, check_years
from claimclasses.errors import BadRows
from claimclasses.pairs import ever_amounts, excess

MOST_PLACES = 100


def without(numbers, claims):
    """These numbers with one of this number less."""
    place = numbers.index(claims)
    return numbers[:place] + numbers[place + 1:]


def put_least(told, key, amount, row):
    """Puts the row under this key, unless a row that stands there has an amount as small."""
    if key not in told or amount < told[key][0]:
        told[key] = (amount, row)


def further_orders(scale, told, prices):
    """The least sums and rows of one year more than `told` has them for, by class and by what is left of the years."""
    further = {}
    for at, left in told:
        amount, row = told[(at, left)]
        for claims in sorted(set(left)):
            put_least(further, (scale(at, claims), without(left, claims)), amount + prices[at], row + [claims])
    return further


def least_order(scale, start, years, after, sign):
    """The least sum that an order of the years has, if premiums count with this sign, and a row that has it."""
    check_class(scale, start)
    check_row(years)
    check_years(after, 0, MOST_YEARS)
    prices = [sign * price for price in scale.premiums()]
    told = {(start, tuple(sorted(years))): (0, [])}
    for place in range(len(years)):
        told = further_orders(scale, told, prices)
    # Nothing is left of the years any more, so these are the sums and rows by the class behind them.
    return min([(amount + sign * scale.paid(key[0], [0] * after), row) for key, (amount, row) in told.items()])


def cheapest_order(scale, start, years, after=0):
    """The least sum for these years in any order and the free years behind them, and a row that has it."""
    return least_order(scale, start, years, after, 1)


def dearest_order(scale, start, years, after=0):
    """The greatest sum for these years in any order and the free years behind them, and a row that has it."""
    amount, row = least_order(scale, start, years, after, -1)
    return -amount, row


def places_cost(scale, start, claims, years):
    """For each of so many years the sum of all their premiums, if the claims are those of this year."""
    check_class(scale, start)
    check_claims(claims)
    check_years(years, 1, MOST_PLACES)
    return [scale.paid(start, [0] * place + [claims] + [0] * (years - 1 - place)) for place in range(years)]


def check_rows(row, other):
    if not isinstance(row, list) or not isinstance(other, list) or len(row) != len(other) or len(row) == 0:
        raise BadRows()
    check_row(row + other)


def behind(scale, at, row):
    return scale.classes(at, row)[-1]


def dearer_class(scale, amounts, row, other):
    """The least class from which the first row can ever cost more, later years included, or None."""
    for at in range(len(scale)):
        later = amounts[(behind(scale, at, row), behind(scale, at, other))]
        if later is None or scale.paid(at, row) - scale.paid(at, other) + later > 0:
            return at
    return None


def never_dearer(scale, row, other):
    """The least class from which the first row can ever cost more, with the excess behind the rows, or None."""
    check_rows(row, other)
    at = dearer_class(scale, ever_amounts(scale), row, other)
    if at is None:
        return None
    return at, excess(scale, behind(scale, at, row), scale, behind(scale, at, other))


def best_spread(scale, first, second):
    """The numbers of the ways to spread the claims of two years that are never dearer than each of the others."""
    check_claims(first)
    check_claims(second)
    rows = [[first, second], [second, first], [first + second, 0], [0, first + second]]
    amounts = ever_amounts(scale)
    found = [all([dearer_class(scale, amounts, row, other) is None for other in rows]) for row in rows]
    return [number for number in range(len(rows)) if found[number]]


def alike_behind(scale, row, other):
    """The least class from which two rows lead to other bills, with a shortest row to one of them, or None."""
    check_rows(row, other)
    for at in range(len(scale)):
        after = parting_row(scale, behind(scale, at, row), scale, behind(scale, at, other))
        if after is not None:
            return at, after
    return None
