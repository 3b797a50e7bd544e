"""The errors that the package raises on purpose.

The messages do not show the value that was wrong: it may be any value, and some cannot be written out.
"""


class ClaimError(ValueError):
    """The base class of all errors of the package."""


class BadPremiums(ClaimError):
    """The premiums are not a list of 1 to 12 integers from 0 to 1000000."""


class BadTable(ClaimError):
    """The table does not have lists of 1 to 5 classes, of one length, for each class."""


class NoClass(ClaimError):
    """The scale does not have this class."""

    def __init__(self, at):
        ClaimError.__init__(self, "the scale does not have this class")
        self.at = at


class BadClaims(ClaimError):
    """A number of claims is not an integer of at least 0."""

    def __init__(self, claims):
        ClaimError.__init__(self, "a number of claims must be an integer of at least 0")
        self.claims = claims


class BadSteps(ClaimError):
    """The steps down or up are not as many, or not as great, as a scale may have them."""


class TooMany(ClaimError):
    """A scale would have more than 12 classes."""

    def __init__(self, count):
        ClaimError.__init__(self, "a scale has at most 12 classes")
        self.count = count


class BadOrder(ClaimError):
    """The order does not have each class just once."""


class BadYears(ClaimError):
    """A year, or a number of years, is not an integer within its bounds."""

    def __init__(self, years):
        ClaimError.__init__(self, "the years must be an integer within their bounds")
        self.years = years


class BadRows(ClaimError):
    """The rows are not two lists of one length with at least one item."""


class BadDamages(ClaimError):
    """The damages are not a list of lists of integers of at least 0."""


class BadHouses(ClaimError):
    """The houses are not 1 to 4 scales with at most 12 classes together."""


class BadWays(ClaimError):
    """The ways do not fit the houses."""


class NoPlace(ClaimError):
    """There is no such place, or no such house."""

    def __init__(self, place):
        ClaimError.__init__(self, "there is no such place or house")
        self.place = place


class BadPlan(ClaimError):
    """A plan has a house into which the policy cannot come then."""


class Billed(ClaimError):
    """The years up to this one are billed already."""

    def __init__(self, year):
        ClaimError.__init__(self, "this year is billed already")
        self.year = year


class NotBilled(ClaimError):
    """No bill was made with this year."""

    def __init__(self, year):
        ClaimError.__init__(self, "no bill was made with this year")
        self.year = year


class BadName(ClaimError):
    """A name is not a string of 1 to 12 letters from a to z."""

    def __init__(self, name):
        ClaimError.__init__(self, "a name must have 1 to 12 letters from a to z")
        self.name = name


class NameTaken(ClaimError):
    """The desk has a policy with this name already."""

    def __init__(self, name):
        ClaimError.__init__(self, "the desk has a policy with this name already")
        self.name = name


class NoPolicy(ClaimError):
    """The desk has no policy with this name."""

    def __init__(self, name):
        ClaimError.__init__(self, "the desk has no policy with this name")
        self.name = name


class NothingToUndo(ClaimError):
    """There is no deed that can be taken back."""
