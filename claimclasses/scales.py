"""Scales: premiums by classes, and the classes to which claims lead."""

from claimclasses.checks import check_claims, check_class, check_premiums, check_row, is_between, is_list_of
from claimclasses.errors import BadTable

MOST_COLUMNS = 5


def is_table(table, many):
    """Whether this is a table for so many classes."""
    if not isinstance(table, list) or len(table) != many:
        return False
    if not all([is_list_of(leads, 1, MOST_COLUMNS, many - 1) for leads in table]):
        return False
    return all([len(leads) == len(table[0]) for leads in table])


def led_to(leads, claims):
    """The class to which so many claims lead, of the list of classes for each column."""
    # The last column stands for all greater numbers of claims, too.
    return leads[min(claims, len(leads) - 1)]


def shortest_rows(moves, start):
    """A shortest row of claims from `start` to each class that can be reached."""
    rows = {start: []}
    layer = [start]
    while layer:
        further = []
        for at in layer:
            for column, to in enumerate(moves[at]):
                if to not in rows:
                    rows[to] = rows[at] + [column]
                    further.append(to)
        layer = further
    return rows


class Scale:
    """Premiums of 1 to 12 classes, with the classes to which 1 to 5 columns of claims lead."""

    def __init__(self, premiums, table):
        check_premiums(premiums)
        if not is_table(table, len(premiums)):
            raise BadTable()
        self.prices = list(premiums)
        self.moves = [list(leads) for leads in table]

    def __call__(self, at, claims):
        check_class(self, at)
        check_claims(claims)
        return led_to(self.moves[at], claims)

    def __len__(self):
        return len(self.prices)

    def __contains__(self, at):
        return is_between(at, 0, len(self.prices) - 1)

    def __add__(self, amount):
        return Scale([price + amount for price in self.prices], self.moves)

    def __mul__(self, factor):
        return Scale([price * factor for price in self.prices], self.moves)

    @property
    def columns(self):
        return len(self.moves[0])

    def premium(self, at):
        check_class(self, at)
        return self.prices[at]

    def premiums(self):
        return list(self.prices)

    def table(self):
        return [list(leads) for leads in self.moves]

    def classes(self, start, row):
        """The class at the beginning of each year of the row, and the class behind the last one."""
        check_class(self, start)
        check_row(row)
        at = start
        found = [start]
        for claims in row:
            at = led_to(self.moves[at], claims)
            found.append(at)
        return found

    def bills(self, start, row):
        """The premium of each year of the row."""
        return [self.prices[at] for at in self.classes(start, row)[:-1]]

    def paid(self, start, row):
        return sum(self.bills(start, row))

    def reached(self, start):
        """The classes in which a policy that starts in this class can ever be."""
        check_class(self, start)
        return sorted(shortest_rows(self.moves, start))

    def way(self, start, goal):
        """A shortest row from one class to another one, or None."""
        check_class(self, start)
        check_class(self, goal)
        return shortest_rows(self.moves, start).get(goal)

    def limited(self, columns):
        """The scale with at most so many first columns."""
        # No error is told for numbers below 1, and a scale has at least one column.
        most = max(columns, 1)
        return Scale(self.prices, [leads[:most] for leads in self.moves])

    def same(self, other):
        return self.prices == other.prices and self.moves == other.moves
