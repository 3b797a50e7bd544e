"""Long runs: what two policies under the same claims add to their difference in a year, on average, in the long run.

`moves`, `adds` and `sums` are those of claimclasses/pairs.py.
"""

from claimclasses.pairs import changed_adds, pair_adds, pair_moves, ring_behind, shows, sums_of_years
from claimclasses.scales import Scale


def lowest_terms(top, bottom):
    common, rest = bottom, abs(top)
    while rest > 0:
        common, rest = rest, common % rest
    return top // common, bottom // common


def is_greater(one, other):
    """Whether one fraction is greater than another one; both have a bottom above 0."""
    return one[0] * other[1] > other[0] * one[1]


def least_share(sums, pair):
    """The least mean by which the sum of the most years is above a sum of fewer years, as a fraction."""
    years = len(sums) - 1
    least = (sums[years][pair], years)
    for fewer in range(1, years):
        share = (sums[years][pair] - sums[fewer][pair], years - fewer)
        if is_greater(least, share):
            least = share
    return least


def greatest_share(moves, sums):
    """The greatest mean of all rings, in lowest terms, and a pair from which the greatest row has only such rings.

    Take the greatest mean off each year. Then no ring adds more than 0, and from each pair some row of fewer years than
    there are pairs adds as much as any row: no least share is above 0. If it is 0, the greatest row of as many years as
    there are pairs adds that much, too; so each ring on it adds 0, as the row would add more without a lesser one. And
    it is 0 for a pair of a ring that adds 0, from which a row of so many years goes round the ring and then adds most.
    """
    found = None
    at = None
    for pair in moves:
        share = least_share(sums, pair)
        if found is None or is_greater(share, found):
            found = share
            at = pair
    top, bottom = found
    return lowest_terms(top, bottom), at


def greatest_ring(moves, adds, start):
    """The greatest mean of all rings, a row from `start` to a ring that has it, and this ring."""
    sums = sums_of_years(moves, adds)
    mean, pair = greatest_share(moves, sums)
    front, ring = ring_behind(moves, adds, sums, start, pair)
    return mean, front, ring


def amounts_over(moves, sums, mean):
    """For each pair the greatest sum of fewer years than there are pairs, if the mean is taken off each year.

    The amounts are counted in parts of which the bottom of the mean makes one.
    """
    top, bottom = mean
    return {pair: max([bottom * sums[years][pair] - top * years for years in range(len(moves))]) for pair in moves}


def greatest_mean(one, start, other, begin):
    """The greatest mean of all rings of two policies, with a row to a ring that has it, and this ring."""
    moves = pair_moves(one, start, other, begin)
    return greatest_ring(moves, pair_adds(one, other, moves), (start, begin))


def least_mean(one, start, other, begin):
    """The least mean of all rings of two policies, with a row to a ring that has it, and this ring."""
    moves = pair_moves(one, start, other, begin)
    adds = pair_adds(one, other, moves)
    mean, front, ring = greatest_ring(moves, changed_adds(adds, -1, 0), (start, begin))
    return (-mean[0], mean[1]), front, ring


def mean_potentials(one, start, other, begin):
    """Amounts of the pairs that show that no ring has a greater mean than the greatest one."""
    moves = pair_moves(one, start, other, begin)
    sums = sums_of_years(moves, pair_adds(one, other, moves))
    return amounts_over(moves, sums, greatest_share(moves, sums)[0])


def is_mean_potentials(one, start, other, begin, mean, amounts):
    """Whether these amounts of pairs show that no ring has a greater mean than this one."""
    moves = pair_moves(one, start, other, begin)
    adds = pair_adds(one, other, moves)
    top, bottom = mean
    return shows(moves, changed_adds(adds, bottom, -top), amounts)


def offset(one, start, other, begin):
    """By how much the difference can ever be above the greatest mean of each of its years, taken together."""
    moves = pair_moves(one, start, other, begin)
    sums = sums_of_years(moves, pair_adds(one, other, moves))
    mean = greatest_share(moves, sums)[0]
    return lowest_terms(amounts_over(moves, sums, mean)[(start, begin)], mean[1])


def long_run(scale, start):
    """The least and the greatest mean premium of a ring of one policy."""
    # Beside a policy that never pays, the difference is what the policy has paid.
    free = Scale([0], [[0]])
    return least_mean(scale, start, free, 0)[0], greatest_mean(scale, start, free, 0)[0]
