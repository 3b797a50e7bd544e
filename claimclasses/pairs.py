"""Two policies under the same claims: their pairs of classes, and how much more the first one pays.

In the functions below, `moves` has for each pair of classes that can be reached the list of the pairs to which the
columns lead, `adds` has for each pair the list of what the years with these columns add to the difference, and
`sums[n]` has the greatest sum that `n` years add of which the first one begins in the pair. No pair is without a next
year, so there is always one. Other files pass something else in the place of pairs and columns.
"""

from claimclasses.checks import MOST_YEARS, check_class, check_years
from claimclasses.scales import shortest_rows


def explored(start, leads):
    """What can be reached from `start`, each with the list that `leads` tells for it: where the columns lead."""
    moves = {}
    layer = [start]
    while layer:
        further = []
        for at in layer:
            if at not in moves:
                moves[at] = leads(at)
                further.extend(moves[at])
        layer = further
    return moves


def pair_moves(one, start, other, begin):
    check_class(one, start)
    check_class(other, begin)
    columns = max(one.columns, other.columns)
    return explored((start, begin), lambda pair: [(one(pair[0], k), other(pair[1], k)) for k in range(columns)])


def class_pairs(scale):
    """For each two classes of a scale, one class twice among them, the pairs to which the columns lead."""
    classes = list(range(len(scale)))
    return {(at, by): [(scale(at, k), scale(by, k)) for k in range(scale.columns)] for at in classes for by in classes}


def pair_adds(one, other, moves):
    return {(at, by): [one.premium(at) - other.premium(by)] * len(moves[(at, by)]) for at, by in moves}


def changed_adds(adds, factor, amount):
    """What years add if it is multiplied by the factor, and the amount is added for each year."""
    return {pair: [factor * add + amount for add in adds[pair]] for pair in adds}


def with_year(moves, adds, pair, last):
    """For each column the sum of a year in this pair and of what `last` has for the pair behind it."""
    return [add + last[to] for add, to in zip(adds[pair], moves[pair])]


def year_before(moves, adds, last):
    """The greatest sums of one year more than `last` has them for."""
    return {pair: max(with_year(moves, adds, pair, last)) for pair in moves}


def sums_of_years(moves, adds):
    """The greatest sums of 0, 1, .. years, up to as many years as there are pairs."""
    sums = [{pair: 0 for pair in moves}]
    while len(sums) <= len(moves):
        sums.append(year_before(moves, adds, sums[-1]))
    return sums


def greatest_amounts(moves, sums):
    """For each pair the greatest sum of fewer years than there are pairs.

    More years come to a pair twice, so without a ring that adds more than 0 they never add more than fewer years do.
    """
    return {pair: max([sums[years][pair] for years in range(len(moves))]) for pair in moves}


def growing_pair(moves, sums, amounts):
    """A pair from which the last one of these sums is greater than all earlier ones, or None."""
    for pair in moves:
        if sums[len(moves)][pair] > amounts[pair]:
            return pair
    return None


def ever_amounts(scale):
    """For each two classes of a scale the greatest difference behind any row, or None if it can grow without end."""
    moves = class_pairs(scale)
    sums = sums_of_years(moves, pair_adds(scale, scale, moves))
    amounts = greatest_amounts(moves, sums)
    growing = {pair: True for pair in moves if sums[len(moves)][pair] > amounts[pair]}
    for first in moves:
        # From where such a pair can be reached, its ring can be gone round as often as one likes.
        if any([pair in growing for pair in explored(first, lambda at: moves[at])]):
            amounts[first] = None
    return amounts


def greatest_row(moves, adds, sums, pair, years):
    """A row of so many years that adds the greatest sum behind this pair."""
    row = []
    at = pair
    for left in reversed(range(years)):
        row.append(with_year(moves, adds, at, sums[left]).index(sums[left + 1][at]))
        at = moves[at][row[-1]]
    return row


def way_along(moves, start, row):
    """Where a row begins, and where each of its years leads."""
    way = [start]
    for column in row:
        way.append(moves[way[-1]][column])
    return way


def first_return(way):
    """The places on a way of something that stands there twice, the first such places."""
    places = {}
    for place, at in enumerate(way):
        if at in places:
            return places[at], place
        places[at] = place
    return None


def ring_behind(moves, adds, sums, start, pair):
    """A row from `start` to a ring, and the ring: it lies on the greatest row of as many years as there are pairs."""
    row = greatest_row(moves, adds, sums, pair, len(moves))
    low, high = first_return(way_along(moves, pair, row))
    return shortest_rows(moves, start)[pair] + row[:low], row[low:high]


def greatest_told(moves, adds, first):
    """What `excess` tells of the greatest sum that years add of which the first one begins in the pair `first`."""
    sums = sums_of_years(moves, adds)
    amounts = greatest_amounts(moves, sums)
    growing = growing_pair(moves, sums, amounts)
    if growing is not None:
        front, ring = ring_behind(moves, adds, sums, first, growing)
        return "endless", front, ring
    years = [told[first] for told in sums].index(amounts[first])
    return "most", amounts[first], greatest_row(moves, adds, sums, first, years)


def least_amounts(moves, adds):
    """The least amounts that show why no sum is greater, or None if sums can grow without end."""
    sums = sums_of_years(moves, adds)
    amounts = greatest_amounts(moves, sums)
    return amounts if growing_pair(moves, sums, amounts) is None else None


def shows(moves, adds, amounts):
    """Whether just the pairs have amounts, each at least what a year adds and the amount to which it leads."""
    if set(amounts) != set(moves):
        return False
    return all([amounts[pair] >= max(with_year(moves, adds, pair, amounts)) for pair in moves])


def shows_greatest(moves, adds, first, amounts):
    """Whether amounts, none below 0, show why no sum from `first` on is greater than just the amount there."""
    if not shows(moves, adds, amounts) or min([amounts[pair] for pair in moves]) < 0:
        return False
    return greatest_told(moves, adds, first)[:2] == ("most", amounts[first])


def pairs(one, start, other, begin):
    """The pairs of classes in which two policies with the same claims can ever be."""
    return sorted(pair_moves(one, start, other, begin))


def difference(one, start, other, begin, row):
    """What the first policy has paid for the years of the row minus what the second one has paid."""
    check_class(one, start)
    check_class(other, begin)
    return one.paid(start, row) - other.paid(begin, row)


def excess(one, start, other, begin):
    """The greatest difference behind any row, with a shortest row that has it, or a ring by which it grows."""
    moves = pair_moves(one, start, other, begin)
    return greatest_told(moves, pair_adds(one, other, moves), (start, begin))


def never_more(one, start, other, begin):
    """Whether the first policy has never paid more than the second one."""
    return excess(one, start, other, begin)[:2] == ("most", 0)


def potentials(one, start, other, begin):
    """Amounts of the pairs that show why no difference is greater, or None if it can grow without end."""
    moves = pair_moves(one, start, other, begin)
    return least_amounts(moves, pair_adds(one, other, moves))


def is_potentials(one, start, other, begin, amounts):
    """Whether these amounts of pairs show why no difference is greater than the greatest one."""
    moves = pair_moves(one, start, other, begin)
    return shows_greatest(moves, pair_adds(one, other, moves), (start, begin), amounts)


def by_years(one, start, other, begin, years):
    """The least and the greatest difference behind all rows of 0, 1, .., `years` years."""
    moves = pair_moves(one, start, other, begin)
    check_years(years, 0, MOST_YEARS)
    adds = pair_adds(one, other, moves)
    greatest = starting_sums(moves, adds, (start, begin), years)
    # What is least is greatest with the signs turned.
    turned = starting_sums(moves, changed_adds(adds, -1, 0), (start, begin), years)
    return [(-low, high) for low, high in zip(turned, greatest)]


def starting_sums(moves, adds, first, years):
    """The greatest sums that 0, 1, .., `years` years add which begin in the pair `first`."""
    sums = {pair: 0 for pair in moves}
    told = [0]
    while len(told) <= years:
        sums = year_before(moves, adds, sums)
        told.append(sums[first])
    return told
