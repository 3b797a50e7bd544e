"""What several tests share: scales to try, values of wrong kinds, and errors as tuples."""

import random

from claimclasses.errors import ClaimError
from claimclasses.scales import Scale

# None of these is an integer for the document, though Python counts the first two among them.
NO_INTEGERS = (True, False, None, 0.0, 1.0, 1.5, "", "0", b"0", (), (0,), [], [0], {}, {0: 0}, {1}, 1j, int, Scale)
NO_LISTS = (None, True, 0, 1, 1.5, "", "00", b"00", (), (0, 0), {}, {0: 0}, {0}, range(2), list)
LARGE = 10 ** 29 + 7

# The arguments of each error, as the interface lists them.
ERRORS = {
    "BadPremiums": (),
    "BadTable": (),
    "NoClass": ("at",),
    "BadClaims": ("claims",),
    "BadSteps": (),
    "TooMany": ("count",),
    "BadOrder": (),
    "BadYears": ("years",),
    "BadRows": (),
    "BadDamages": (),
    "BadHouses": (),
    "BadWays": (),
    "NoPlace": ("place",),
    "BadPlan": (),
    "Billed": ("year",),
    "NotBilled": ("year",),
    "BadName": ("name",),
    "NameTaken": ("name",),
    "NoPolicy": ("name",),
    "NothingToUndo": (),
}


def written(value):
    """A value as a string, to see whether it was changed."""
    if isinstance(value, Scale):
        return f"Scale({value.premiums()}, {value.table()})"
    return repr(value)


def raised(deed, *values):
    """The name and the arguments of the error that a call raises; the values passed must stay as they are."""
    before = [written(value) for value in values]
    try:
        found = deed(*values)
    except ClaimError as error:
        assert [written(value) for value in values] == before, f"{deed!r} changed {before}"
        name = type(error).__name__
        return (name, *[getattr(error, argument) for argument in ERRORS[name]])
    raise AssertionError(f"{deed!r} raised nothing for {before} and returned {found!r}")


def random_scale(source, classes=None, columns=None, dearest=1000000):
    classes = classes or source.randint(1, 12)
    columns = columns or source.randint(1, 5)
    premiums = [source.randint(0, dearest) for _ in range(classes)]
    return Scale(premiums, [[source.randrange(classes) for _ in range(columns)] for _ in range(classes)])


def random_scales(seed, many, dearest=1000000):
    source = random.Random(seed)
    return [random_scale(source, dearest=dearest) for _ in range(many)]


def random_row(source, longest=12):
    return [source.choice([0, 0, 0, 1, 1, 2, 3, 4, 5, 6, 50, LARGE]) for _ in range(source.randint(0, longest))]
