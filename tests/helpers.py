"""What several tests share: scales to try, values of wrong kinds, errors as tuples, and searches of their own."""

import itertools
import random

from claimclasses.changing import Houses
from claimclasses.errors import ClaimError
from claimclasses.scales import Scale

# None of these is an integer for the document, though Python counts the first two among them.
NO_INTEGERS = (True, False, None, 0.0, 1.0, 1.5, "", "0", b"0", (), (0,), [], [0], {}, {0: 0}, {1}, 1j, int, Scale)
NO_LISTS = (None, True, 0, 1, 1.5, "", "00", b"00", (), (0, 0), {}, {0: 0}, {0}, range(2), list)
LARGE = 10 ** 29 + 7

# Two scales of the document, and the cheapest and the dearest scale of one class.
MILD = Scale([100, 130, 160], [[0, 1], [0, 2], [1, 2]])
HARSH = Scale([90, 200], [[0, 1], [0, 1]])
LONELY = Scale([0], [[0]])
DEAREST = Scale([1000000], [[0]])

# The arguments of each error, as the interface lists them.
ERRORS = {
    "BadPremiums": (),
    "BadTable": (),
    "NoClass": ("at",),
    "BadClaims": ("claims",),
    "BadSteps": (),
    "TooMany": ("count",),
    "BadOrder": (),
    "BadYears": ("years",),
    "BadRows": (),
    "BadDamages": (),
    "BadHouses": (),
    "BadWays": (),
    "NoPlace": ("place",),
    "BadPlan": (),
    "Billed": ("year",),
    "NotBilled": ("year",),
    "BadName": ("name",),
    "NameTaken": ("name",),
    "NoPolicy": ("name",),
    "NothingToUndo": (),
}


def written(value):
    """A value as a string, to see whether it was changed."""
    if isinstance(value, Scale):
        return f"Scale({value.premiums()}, {value.table()})"
    if isinstance(value, Houses):
        scales = [value.scale_of(house) for house in range(len(value))]
        choices = [value.choices((house, at)) for house, scale in enumerate(scales) for at in range(len(scale))]
        return f"Houses({[written(scale) for scale in scales]}, {choices})"
    return repr(value)


def raised(deed, *values):
    """The name and the arguments of the error that a call raises; the values passed must stay as they are."""
    before = [written(value) for value in values]
    try:
        found = deed(*values)
    except ClaimError as error:
        assert [written(value) for value in values] == before, f"{deed!r} changed {before}"
        name = type(error).__name__
        return (name, *[getattr(error, argument) for argument in ERRORS[name]])
    raise AssertionError(f"{deed!r} raised nothing for {before} and returned {found!r}")


def random_scale(source, classes=None, columns=None, dearest=1000000):
    classes = classes or source.randint(1, 12)
    columns = columns or source.randint(1, 5)
    premiums = [source.randint(0, dearest) for _ in range(classes)]
    return Scale(premiums, [[source.randrange(classes) for _ in range(columns)] for _ in range(classes)])


def random_scales(seed, many, dearest=1000000):
    source = random.Random(seed)
    return [random_scale(source, dearest=dearest) for _ in range(many)]


def random_row(source, longest=12):
    return [source.choice([0, 0, 0, 1, 1, 2, 3, 4, 5, 6, 50, LARGE]) for _ in range(source.randint(0, longest))]


def containers(value):
    """The lists and dicts of a value, itself included."""
    found = [value] if isinstance(value, (list, dict)) else []
    items = list(value.values()) if isinstance(value, dict) else value if isinstance(value, (list, tuple)) else []
    for item in items:
        found.extend(containers(item))
    return found


def answered(deed, *values):
    """What a call returns. It must not change its arguments, and each list and dict that it returns must be new."""
    before = [written(value) for value in values]
    found, again = deed(*values), deed(*values)
    assert [written(value) for value in values] == before, f"{deed!r} changed {before}"
    # Two calls share nothing either, so a caller who changes what was returned changes no later answer.
    parts = [id(part) for part in [*containers(found), *containers(again)]]
    passed = [id(part) for value in values for part in containers(value)]
    assert len({*parts}) == len(parts) and not {*parts} & {*passed}, f"{deed!r} returned no new lists for {before}"
    return found


def is_row(row):
    return isinstance(row, list) and all(type(claims) is int and claims >= 0 for claims in row)


def led(scale, at, claims):
    """Where a number of claims leads: point 6, said once more without the program."""
    leads = scale.table()[at]
    return leads[-1] if claims >= len(leads) else leads[claims]


def walked(one, start, other, begin, row):
    """The pairs of two policies with the same claims at the beginning of each year and behind the last one."""
    way = [(start, begin)]
    for claims in row:
        at, by = way[-1]
        way.append((led(one, at, claims), led(other, by, claims)))
    return way


def added(one, other, pair):
    return one.premiums()[pair[0]] - other.premiums()[pair[1]]


def gained(one, start, other, begin, row):
    """The difference behind a row, summed up year by year."""
    return sum(added(one, other, pair) for pair in walked(one, start, other, begin, row)[:-1])


def graph(one, start, other, begin):
    """The pairs to which two policies can ever come, each with those to which one year leads."""
    columns = max(one.columns, other.columns)
    firsts = [[led(one, at, k) for k in range(columns)] for at in range(len(one))]
    seconds = [[led(other, by, k) for k in range(columns)] for by in range(len(other))]
    found = {}
    waiting = [(start, begin)]
    while waiting:
        at, by = waiting.pop()
        if (at, by) not in found:
            found[(at, by)] = sorted({*zip(firsts[at], seconds[by])})
            waiting.extend(found[(at, by)])
    return found


def layers(one, start, other, begin, years):
    """For 0, 1, .., `years` years the least and greatest difference behind so many, for each pair behind them."""
    leads = graph(one, start, other, begin)
    adds = {pair: added(one, other, pair) for pair in leads}
    told = [{(start, begin): (0, 0)}]
    for _ in range(years):
        behind = {}
        for pair, (low, high) in told[-1].items():
            for to in leads[pair]:
                least, greatest = behind.get(to, (low + adds[pair], high + adds[pair]))
                behind[to] = (min(least, low + adds[pair]), max(greatest, high + adds[pair]))
        told.append(behind)
    return told


def spans(one, start, other, begin, years):
    """The least and the greatest difference behind 0, 1, .., `years` years."""
    return [(min(low for low, _ in behind.values()), max(high for _, high in behind.values()))
            for behind in layers(one, start, other, begin, years)]


def simple_rings(leads):
    """All rings that come to nothing twice, each as a list of what it comes to."""
    found = []

    def extend(way):
        for to in leads[way[-1]]:
            if to == way[0]:
                found.append(list(way))
            # A ring is found once only, from the least one that it comes to.
            elif to > way[0] and to not in way:
                extend([*way, to])

    for start in leads:
        extend([start])
    return found


def ring_sums(one, start, other, begin):
    """What each simple ring of two policies adds, and its number of years."""
    rings = simple_rings(graph(one, start, other, begin))
    return [(sum(added(one, other, pair) for pair in ring), len(ring)) for ring in rings]


def most_amount(one, start, other, begin):
    """The amount of point 16 by a search of its own, or None if there is a ring that adds more than 0."""
    if any(amount > 0 for amount, _ in ring_sums(one, start, other, begin)):
        return None
    return max(high for _, high in spans(one, start, other, begin, len(graph(one, start, other, begin))))


def amount_told(told, one, start, other, begin):
    """The amount that `excess` told, or None if it told of a ring; what it told is looked at by walks year by year."""
    assert type(told) is tuple and len(told) == 3, told
    if told[0] == "endless":
        _, front, ring = told
        assert is_row(front) and is_row(ring) and len(ring) > 0, told
        at, by = walked(one, start, other, begin, front)[-1]
        assert walked(one, at, other, by, ring)[-1] == (at, by), told
        assert gained(one, at, other, by, ring) > 0, told
        return None
    kind, amount, row = told
    assert kind == "most" and type(amount) is int and is_row(row), told
    assert gained(one, start, other, begin, row) == amount, told
    # No shorter row has this difference.
    assert all(high < amount for _, high in spans(one, start, other, begin, len(row))[:-1]), told
    return amount


def all_rows(columns, years):
    return [list(row) for row in itertools.product(range(columns), repeat=years)]


def sinking_scale(source):
    """A small scale in which each class leads to greater ones, and the last one costs nothing."""
    classes, columns = source.randint(2, 4), source.randint(1, 3)
    premiums = [source.randint(0, 6) for _ in range(classes - 1)]
    table = [[source.randint(min(at + 1, classes - 1), classes - 1) for _ in range(columns)] for at in range(classes)]
    return Scale([*premiums, 0], table)


def small_cases(seed, many, pairs=9):
    """Two small scales with a class of each: unlike columns, the same scale twice, and starts that are equal, too."""
    source = random.Random(seed)
    cases = []
    while len(cases) < many:
        one = random_scale(source, source.randint(1, 4), source.randint(1, 3), source.choice([0, 1, 2, 6]))
        other = random_scale(source, source.randint(1, 4), source.randint(1, 3), source.choice([0, 1, 2, 6]))
        kind = source.randrange(6)
        if kind == 0:
            other = one
        elif kind == 1:
            other = Scale([source.randint(0, 3) + premium for premium in one.premiums()], one.table())
        elif kind == 2:
            other = other + source.randint(0, 4)
        elif kind > 3:
            one = sinking_scale(source)
            other = source.choice([one, sinking_scale(source), other])
        if len(one) * len(other) <= pairs or source.random() < 0.1:
            cases.append((one, source.randrange(len(one)), other, source.randrange(len(other))))
    return cases


def rings_of_unlike_lengths(above):
    """Two scales in which all years go round 12 and 11 classes, and so round 132 pairs, which add just so much."""
    # For each 11 the first one adds 121, and for each 10 the second one takes 120 away.
    firsts, seconds = {1: (11, 10), 0: (12, 11), -1: (1, 1)}[above]
    one = Scale([firsts] + [0] * 11, [[(at + 1) % 12] for at in range(12)])
    other = Scale([0] * 5 + [seconds] + [0] * 5, [[(by + 1) % 11] for by in range(11)])
    return one, other


def steps_to(leads, start, fits):
    """The number of years behind which something that fits can first be reached, or None."""
    came = set()
    layer = {start}
    years = 0
    while layer - came:
        if any(fits(at) for at in layer):
            return years
        came |= layer
        layer = {to for at in layer for to in leads(at)}
        years += 1
    return None


def long_ladders():
    """Scales of 12 classes and 5 columns."""
    premiums = [20000 + 7919 * at * at for at in range(12)]
    mild = [[max(at - 1, 0), min(at + 1, 11), min(at + 3, 11), min(at + 6, 11), 11] for at in range(12)]
    harsh = [[max(at - 2, 0), min(at + 4, 11), 11, 11, 11] for at in range(12)]
    return Scale(premiums, mild), Scale([premium + 3511 for premium in premiums], harsh)


def random_ways(source, scales, share):
    """Ways between some of the houses, with fees of all sizes."""
    ends = [(house, to) for house in range(len(scales)) for to in range(len(scales)) if house != to]
    return {(house, to): ([source.randrange(len(scales[to])) for _ in range(len(scales[house]))],
                          source.choice([0, 0, 1, 3, source.randint(0, 9), 1000000]))
            for house, to in ends if source.random() < share}


def random_houses(source):
    """The scales and the ways of a few houses, some of which have the same scale."""
    sizes = [source.randint(1, 3) for _ in range(source.randint(1, 4))]
    scales = [random_scale(source, size, source.randint(1, 3), source.choice([0, 2, 9])) for size in sizes]
    kind = source.randrange(5)
    if kind == 0 and len(sizes) * len(scales[0]) <= 12:
        scales = [scales[0] for _ in sizes]
    elif kind > 2:
        # In the long run nothing costs anything, so no gain grows without end.
        scales = [sinking_scale(source) for _ in range(source.randint(2, 3))]
    return scales, random_ways(source, scales, source.choice([0, 0.3, 0.7, 1]))


def all_places(scales):
    return [(house, at) for house, scale in enumerate(scales) for at in range(len(scale))]


def come(ways, place, to):
    """The place in a house to which a policy changes, and the fee; None if there is no way: points 51 and 52."""
    house, at = place
    if house == to:
        return place, 0
    if (house, to) not in ways:
        return None
    classes, fee = ways[(house, to)]
    return (to, classes[at]), fee


def yearly_costs(scales, ways, place, row, plan):
    """What each year costs by a plan, and the place behind the last one; None if there is a house without a way."""
    told = []
    for to, claims in zip(plan, row):
        found = come(ways, place, to)
        if found is None:
            return None
        (house, at), fee = found
        told.append(scales[house].premiums()[at] + fee)
        place = (house, led(scales[house], at, claims))
    return told, place


class OwnPolicy:
    """Points 61 to 65, said once more without the program: all is computed from the first year on each time."""

    def __init__(self, scales, ways, place):
        self.scales, self.ways, self.place = scales, ways, place
        self.claims, self.choices, self.bills = {}, {}, []

    def copy(self):
        other = OwnPolicy(self.scales, self.ways, self.place)
        other.claims, other.choices, other.bills = {**self.claims}, {**self.choices}, [*self.bills]
        return other

    def years(self, many=1000):
        """The place in each year and what it costs; None if there is a choice for which there is no way."""
        place, told = self.place, []
        for year in range(many):
            found = come(self.ways, place, self.choices.get(year, place[0]))
            if found is None:
                return None
            (house, at), fee = found
            told.append(((house, at), self.scales[house].premiums()[at] + fee))
            place = (house, led(self.scales[house], at, self.claims.get(year, 0)))
        return told

    def total(self, many):
        return sum(cost for _, cost in self.years(many))

    def billed(self):
        return self.bills[-1][0] + 1 if self.bills else 0

    def owed(self):
        return self.total(self.billed()) - sum(amount for _, amount, _ in self.bills)

    def bill(self, year):
        owed = self.owed()
        amount = self.total(year + 1) - sum(sent for _, sent, _ in self.bills)
        self.bills.append((year, amount, owed))
        return amount


def policy_told(policy, many):
    """What a policy tells of its first years and its bills."""
    years = range(many)
    bills = policy.bills_sent()
    return ([policy[year] for year in years], [policy.place_in(year) for year in years],
            [policy.cost(year) for year in years], [policy.total(year) for year in range(many + 1)], bills,
            [policy.correction(year) for year, _ in bills], policy.owed())


def own_told(own, many):
    """The same, told by the policy above."""
    told = own.years(many)
    return ([own.claims.get(year, 0) for year in range(many)], [place for place, _ in told], [cost for _, cost in told],
            [own.total(year) for year in range(many + 1)], [(year, amount) for year, amount, _ in own.bills],
            [owed for _, _, owed in own.bills], own.owed())


def story_classes(scale, story):
    """The classes of a story, year by year."""
    start, row = story
    told = [start]
    for claims in row:
        told.append(led(scale, told[-1], claims))
    return told


def seen_told(seen, many):
    """All that is told, to see whether something is known that was not known before, or is not known any more."""
    years = range(many + 1)
    return (seen.stories(), seen.fewest(), seen.most(), seen.clash(), seen.best_year(), [seen[year] for year in years],
            [seen.possible(year) for year in years], [seen.columns_in(year) for year in range(many)])


class RefusedClasses:
    """Tests of functions of two scales and a class of each; `calls` has the functions and their further arguments."""

    calls = ()

    def test_classes_that_a_scale_does_not_have(self):
        for deed, more in self.calls:
            for bad in (-1, 3, LARGE, -LARGE, *NO_INTEGERS):
                self.assertEqual(raised(deed, MILD, bad, HARSH, 0, *more), ("NoClass", bad), deed)
            for bad in (-1, 2, LARGE, -LARGE, *NO_INTEGERS):
                self.assertEqual(raised(deed, MILD, 0, HARSH, bad, *more), ("NoClass", bad), deed)

    def test_each_class_belongs_to_its_scale(self):
        for deed, more in self.calls:
            self.assertEqual(raised(deed, HARSH, 2, MILD, 0, *more), ("NoClass", 2), deed)
            answered(deed, HARSH, 1, MILD, 2, *more)

    def test_the_first_class_is_told_first(self):
        for deed, more in self.calls:
            for bad in (7, True, None, [1]):
                self.assertEqual(raised(deed, MILD, bad, HARSH, -5, *more), ("NoClass", bad), deed)
