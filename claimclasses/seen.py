"""Classes that were seen: which stories of a policy fit what is known of its classes in some years."""

from claimclasses.checks import check_class, check_years

MOST_SEEN = 60


def origins_of(moves):
    """For each class the classes that lead to it, each one once for each column by which it does."""
    return [[by for by, leads in enumerate(moves) for to in leads if to == at] for at in range(len(moves))]


def sum_at(counts, classes):
    """The sum of the counts of these classes, of each one as often as it stands there."""
    total = 0
    for at in classes:
        total += counts[at]
    return total


def walk_counts(beside, left):
    """For each year and class the number of ways that come to it, if the years are gone through in this order.

    A way begins in a class of the first year, and comes to a class from those in the list that `beside` has for it.
    """
    counts = [[1 if at in left[0] else 0 for at in range(len(beside))]]
    for classes in left[1:]:
        told = [0 for at in beside]
        for at in classes:
            told[at] = sum_at(counts[-1], beside[at])
        counts.append(told)
    return counts


def signed_steps(leads, sign):
    """For each column what it counts with this sign, and the class to which it leads."""
    return [(sign * column, to) for column, to in enumerate(leads)]


def least_sum(steps, rest):
    """The least sum of a step and what goes on behind it, or None if nothing does."""
    least = None
    for amount, to in steps:
        if to in rest:
            total = amount + rest[to]
            if least is None or total < least:
                least = total
    return least


def least_sums(steps, left):
    """For each year the least sums of the steps from there on, by the classes from which a story goes on."""
    sums = [{at: 0 for at in left[-1]}]
    for classes in reversed(list(left[:-1])):
        told = {at: least_sum(steps[at], sums[-1]) for at in classes}
        sums.append({at: told[at] for at in told if told[at] is not None})
    return sums[::-1]


def least_story(moves, left, sign):
    """A story that fits with the least sum of its columns, if they count with this sign, or None."""
    steps = [signed_steps(leads, sign) for leads in moves]
    sums = least_sums(steps, left)
    if not sums[0]:
        return None
    start = min([(sums[0][at], at) for at in sums[0]])[1]
    row = []
    at = start
    for rest in sums[1:]:
        totals = [(amount + rest[to], column) for column, (amount, to) in enumerate(steps[at]) if to in rest]
        row.append(min(totals)[1])
        at = moves[at][row[-1]]
    return start, row


def shortest_clashes(origins, left):
    """The shortest clash that ends in each year that has one, as the number of years behind its first one, and that."""
    found = []
    earliest = {}
    for year, classes in enumerate(left):
        # What fits from some year on fits from each later one on, too: so the earliest one tells of all.
        earliest = {at: min([earliest[by] for by in origins[at] if by in earliest], default=year) for at in classes}
        first = min(list(earliest.values()), default=year + 1) - 1
        if first >= 0:
            found.append((year - first, first))
    return found


class Knowledge:
    """The classes that are left for each year, and the stories that fit, counted when they are first asked for.

    It is not changed by what is taken in later, which makes another one: so what was counted need not be counted again
    as long as nothing is taken in, nor behind a trial.
    """

    def __init__(self, moves, origins, left):
        self.moves = moves
        self.origins = origins
        self.left = left
        self.before = None
        self.behind = None

    def narrowed(self, year, fitting):
        """What is known if just these classes fit in a year, too."""
        left = list(self.left)
        left[year] = [at for at in left[year] if at in fitting]
        return Knowledge(self.moves, self.origins, left)

    def counts_before(self):
        """For each year and class the number of stories of the years before it that come to this class."""
        if self.before is None:
            self.before = walk_counts(self.origins, self.left)
        return self.before

    def counts_behind(self):
        """For each year and class the number of stories of the years from there on that begin in this class."""
        if self.behind is None:
            self.behind = walk_counts(self.moves, self.left[::-1])[::-1]
        return self.behind

    def counts_in(self, year):
        """For each class the number of stories that fit and have it in this year."""
        return [came * rest for came, rest in zip(self.counts_before()[year], self.counts_behind()[year])]


class SeenTrial:
    """A block behind which is known what was known when it began."""

    def __init__(self, seen):
        self.seen = seen
        self.kept = None

    def __enter__(self):
        self.kept = self.seen.known
        return self.seen

    def __exit__(self, kind, value, trace):
        self.seen.known = self.kept


class Seen:
    """What is known of the classes of a policy at the beginning of some years, and behind the last one."""

    def __init__(self, scale, many):
        check_years(many, 0, MOST_SEEN)
        self.scale = scale
        self.last = many
        moves = scale.table()
        left = [list(range(len(scale))) for year in range(many + 1)]
        self.known = Knowledge(moves, origins_of(moves), left)

    def __getitem__(self, year):
        check_years(year, 0, self.last)
        return list(self.known.left[year])

    def __setitem__(self, year, at):
        self.only(year, [at])

    def __iter__(self):
        raise TypeError("the years are read one by one")

    def only(self, year, classes):
        """Takes in that the class of a year is one of these."""
        check_years(year, 0, self.last)
        for at in classes:
            check_class(self.scale, at)
        self.known = self.known.narrowed(year, classes)

    def paid(self, year, amount):
        """Takes in that the premium of a year is this one."""
        check_years(year, 0, self.last)
        fitting = [at for at, premium in enumerate(self.scale.premiums()) if premium == amount]
        self.known = self.known.narrowed(year, fitting)

    def possible(self, year):
        """The classes that the year has in some story that fits."""
        check_years(year, 0, self.last)
        return [at for at, count in enumerate(self.known.counts_in(year)) if count > 0]

    def stories(self):
        """The number of stories that fit."""
        return sum(self.known.counts_behind()[0])

    def fewest(self):
        """A story that fits whose columns have the least sum, or None."""
        return least_story(self.known.moves, self.known.left, 1)

    def most(self):
        """A story that fits whose columns have the greatest sum, or None."""
        return least_story(self.known.moves, self.known.left, -1)

    def columns_in(self, year):
        """The columns that the year has in some story that fits."""
        check_years(year, 0, self.last - 1)
        behind = self.known.counts_behind()[year + 1]
        led = [leads for leads, count in zip(self.known.moves, self.known.counts_before()[year]) if count > 0]
        return [column for column in range(self.scale.columns) if any([behind[leads[column]] > 0 for leads in led])]

    def clash(self):
        """The first and last one of as few years as possible whose knowledge alone fits no story, or None."""
        found = shortest_clashes(self.known.origins, self.known.left)
        if len(found) == 0:
            return None
        years, first = min(found)
        return first, first + years

    def best_year(self):
        """The year whose class leaves the fewest stories at worst, with this number, or None if no story fits."""
        worst = [max(self.known.counts_in(year)) for year in range(self.last + 1)]
        # If a story fits, each year has a class in it, and otherwise none has one.
        if worst[0] == 0:
            return None
        return worst.index(min(worst)), min(worst)

    def trial(self):
        return SeenTrial(self)

    def tried(self, deed):
        """What the deed returns; behind it is known what was known before it."""
        with self.trial() as held:
            return deed(held)
