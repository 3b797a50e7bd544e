"""Policies that are billed alike, whatever their claims, and scales with as few classes or columns as possible."""

from claimclasses.checks import check_class
from claimclasses.pairs import pair_moves
from claimclasses.scales import Scale, shortest_rows


def numbered(keys):
    """For each key its number, if different keys are numbered from 0 in the order in which they first stand there."""
    numbers = {}
    for key in keys:
        if key not in numbers:
            numbers[key] = len(numbers)
    return [numbers[key] for key in keys]


def groups(premiums, moves):
    """The number of its group for each class: alike classes are in one group, in the order of their least classes."""
    found = numbered(premiums)
    finer = split(found, moves)
    while finer != found:
        found = finer
        finer = split(found, moves)
    return found


def split(found, moves):
    """The groups, split where a column leads from classes of one group into different groups."""
    return numbered([(found[at], *[found[to] for to in leads]) for at, leads in enumerate(moves)])


def table_of(scale, columns, first):
    """The table with so many columns, if the classes are numbered from `first` on."""
    return [[first + scale(at, claims) for claims in range(columns)] for at in range(len(scale))]


def parting_row(one, start, other, begin):
    """A shortest row behind which the premiums of two policies are different, or None."""
    rows = shortest_rows(pair_moves(one, start, other, begin), (start, begin))
    # The shorter rows stand first.
    for at, by in rows:
        if one.premium(at) != other.premium(by):
            return rows[(at, by)]
    return None


def alike_in(one, other):
    """For each class of one scale the classes of the other one from which a policy is billed alike."""
    columns = max(one.columns, other.columns)
    many = len(one)
    found = groups(one.premiums() + other.premiums(), table_of(one, columns, 0) + table_of(other, columns, many))
    return [[by for by in range(len(other)) if found[many + by] == found[at]] for at in range(many)]


def least(scale):
    """A scale with one class for each group of alike classes, and the list of these classes for each old one."""
    moves = scale.table()
    led = groups(scale.premiums(), moves)
    firsts = [led.index(group) for group in range(max(led) + 1)]
    table = [[led[to] for to in moves[at]] for at in firsts]
    return Scale([scale.premium(at) for at in firsts], table), led


def least_from(scale, start):
    """The scale with as few classes as possible whose class 0 is billed alike as class `start`."""
    check_class(scale, start)
    smaller, led = least(scale)
    moves = smaller.table()
    # They stand there in the order in which the rows that are gone through come to them.
    order = list(shortest_rows(moves, led[start]))
    return Scale([smaller.premium(at) for at in order], [[order.index(to) for to in moves[at]] for at in order])


def needless_columns(scale):
    """How many last columns can be left out without a change of any bill."""
    return max([count for count in range(scale.columns) if is_needless(scale, count)])


def is_needless(scale, count):
    """Whether so many last columns can be left out without a change of any bill."""
    found = alike_in(scale, scale.limited(scale.columns - count))
    return all([at in found[at] for at in range(len(scale))])
