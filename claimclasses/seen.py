"""Classes that were seen: which stories of a policy fit what is known of its classes in some years."""

from claimclasses.checks import check_class, check_years

MOST_SEEN = 60


def column_sums(scale, at, rest, sign):
    """For each column by which a story goes on from this class, the sum from there on, and the column."""
    return [(sign * column + rest[scale(at, column)], column) for column in range(scale.columns)
            if scale(at, column) in rest]


def least_sums(scale, left, sign):
    """For each year the least sums of the columns from there on, by the classes from which a story goes on."""
    sums = [{at: 0 for at in left[-1]}]
    for classes in reversed(list(left[:-1])):
        told = {at: column_sums(scale, at, sums[-1], sign) for at in classes}
        sums.append({at: min(told[at])[0] for at in told if told[at]})
    return sums[::-1]


def least_story(scale, left, sign):
    """A story that fits with the least sum of its columns, if they count with this sign, or None."""
    sums = least_sums(scale, left, sign)
    if not sums[0]:
        return None
    start = min([(sums[0][at], at) for at in sums[0]])[1]
    row = []
    at = start
    for rest in sums[1:]:
        row.append(min(column_sums(scale, at, rest, sign))[1])
        at = scale(at, row[-1])
    return start, row


def counts_before(scale, left):
    """For each year the numbers of stories of the years before it, by the classes to which they come."""
    counts = [{at: 1 for at in left[0]}]
    for classes in left[1:]:
        told = {}
        for at, count in counts[-1].items():
            for column in range(scale.columns):
                to = scale(at, column)
                if to in classes:
                    told[to] = told.get(to, 0) + count
        counts.append(told)
    return counts


def counts_behind(scale, left):
    """For each year the numbers of ways in which a story goes on from there, by the classes from which it does."""
    counts = [{at: 1 for at in left[-1]}]
    for classes in reversed(list(left[:-1])):
        rest = counts[-1]
        told = {at: sum([rest.get(scale(at, column), 0) for column in range(scale.columns)]) for at in classes}
        counts.append({at: told[at] for at in told if told[at] > 0})
    return counts[::-1]


def counts_with(scale, left):
    """For each year the numbers of stories that fit, by the classes of this year."""
    told = list(zip(counts_before(scale, left), counts_behind(scale, left)))
    return [{at: before[at] * behind[at] for at in before if at in behind} for before, behind in told]


def clashing_year(scale, left, first):
    """The first year such that no story fits what is known from `first` to it, or None."""
    held = left[first]
    last = first
    while held and last < len(left) - 1:
        last += 1
        led = {scale(at, column): True for at in held for column in range(scale.columns)}
        held = [at for at in left[last] if at in led]
    return None if held else last


class SeenTrial:
    """A block behind which is known what was known when it began."""

    def __init__(self, seen):
        self.seen = seen
        self.kept = []

    def __enter__(self):
        self.kept = list(self.seen.left)
        return self.seen

    def __exit__(self, kind, value, trace):
        self.seen.left = self.kept


class Seen:
    """What is known of the classes of a policy at the beginning of some years, and behind the last one."""

    def __init__(self, scale, many):
        check_years(many, 0, MOST_SEEN)
        self.scale = scale
        # For each year the classes that are left by what was taken in on this year.
        self.left = [list(range(len(scale))) for year in range(many + 1)]

    def __getitem__(self, year):
        check_years(year, 0, len(self.left) - 1)
        return list(self.left[year])

    def __setitem__(self, year, at):
        self.only(year, [at])

    def __iter__(self):
        raise TypeError("the years are read one by one")

    def only(self, year, classes):
        """Takes in that the class of a year is one of these."""
        check_years(year, 0, len(self.left) - 1)
        for at in classes:
            check_class(self.scale, at)
        self.left[year] = [at for at in self.left[year] if at in classes]

    def paid(self, year, amount):
        """Takes in that the premium of a year is this one."""
        check_years(year, 0, len(self.left) - 1)
        self.left[year] = [at for at in self.left[year] if self.scale.premium(at) == amount]

    def possible(self, year):
        """The classes that the year has in some story that fits."""
        check_years(year, 0, len(self.left) - 1)
        return sorted(counts_with(self.scale, self.left)[year])

    def stories(self):
        """The number of stories that fit."""
        return sum(list(counts_behind(self.scale, self.left)[0].values()))

    def fewest(self):
        """A story that fits whose columns have the least sum, or None."""
        return least_story(self.scale, self.left, 1)

    def most(self):
        """A story that fits whose columns have the greatest sum, or None."""
        return least_story(self.scale, self.left, -1)

    def columns_in(self, year):
        """The columns that the year has in some story that fits."""
        check_years(year, 0, len(self.left) - 2)
        before = counts_before(self.scale, self.left)[year]
        behind = counts_behind(self.scale, self.left)[year + 1]
        columns = list(range(self.scale.columns))
        return [column for column in columns if any([self.scale(at, column) in behind for at in before])]

    def clash(self):
        """The first and last one of as few years as possible whose knowledge alone fits no story, or None."""
        found = []
        for first in range(len(self.left)):
            last = clashing_year(self.scale, self.left, first)
            if last is not None:
                found.append((last - first, first))
        if len(found) == 0:
            return None
        years, first = min(found)
        return first, first + years

    def best_year(self):
        """The year whose class leaves the fewest stories at worst, with this number, or None if no story fits."""
        told = counts_with(self.scale, self.left)
        # If a story fits, each year has a class in it, and otherwise none has one.
        if not told[0]:
            return None
        worst = [max(list(counts.values())) for counts in told]
        return worst.index(min(worst)), min(worst)

    def trial(self):
        return SeenTrial(self)

    def tried(self, deed):
        """What the deed returns; behind it is known what was known before it."""
        with self.trial() as held:
            return deed(held)
