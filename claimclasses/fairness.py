"""One claim more: whether a policy that had one claim more in one year can ever be billed less for it, or pay less."""

from claimclasses.pairs import class_pairs, ever_amounts, excess
from claimclasses.scales import shortest_rows


def extra_claims(scale):
    """Each class with each number of claims to which one claim more is another column."""
    return [(at, claims) for at in range(len(scale)) for claims in range(scale.columns - 1)]


def led_apart(scale, at, claims):
    """The classes to which one claim more, and just so many claims, lead."""
    return scale(at, claims + 1), scale(at, claims)


def later_pairs(scale):
    """For each pair (more, fewer) that the policies can come to: where they parted, and a shortest row since then.

    The pairs with the shorter rows stand first.
    """
    parted = extra_claims(scale)
    moves = class_pairs(scale)
    # All of them part in one year, from which one more place leads to where they come behind it.
    moves[()] = [led_apart(scale, at, claims) for at, claims in parted]
    rows = shortest_rows(moves, ())
    return {pair: (*parted[rows[pair][0]], rows[pair][1:]) for pair in rows if pair != ()}


def unfair_year(scale):
    """Where two policies part, and a shortest row behind which the one with one claim more is billed less, or None."""
    found = later_pairs(scale)
    for more, fewer in found:
        if scale.premium(more) < scale.premium(fewer):
            return found[(more, fewer)]
    return None


def fair_pairs(scale):
    """Pairs of classes that show that one claim more is never billed less, or None if it is."""
    return sorted(later_pairs(scale)) if unfair_year(scale) is None else None


def is_fair_pairs(scale, pairs):
    """Whether these pairs of classes show that one claim more is never billed less."""
    held = {pair: True for pair in pairs}
    if not all([led_apart(scale, at, claims) in held for at, claims in extra_claims(scale)]):
        return False
    return all([stays_fair(scale, more, fewer, held) for more, fewer in held])


def stays_fair(scale, more, fewer, held):
    if more not in scale or fewer not in scale or scale.premium(more) < scale.premium(fewer):
        return False
    return all([(scale(more, k), scale(fewer, k)) in held for k in range(scale.columns)])


def unfair_sum(scale):
    """The first class and number of claims for which one claim more can ever pay less, with this excess, or None."""
    amounts = ever_amounts(scale)
    for at, claims in extra_claims(scale):
        more, fewer = led_apart(scale, at, claims)
        if amounts[(fewer, more)] != 0:
            return at, claims, excess(scale, fewer, scale, more)
    return None


def worse(scale):
    """The pairs of different classes of which the first one is worse than the second one."""
    held = {pair: True for pair in later_pairs(scale)}
    classes = list(range(len(scale)))
    # Behind each round all chains are held whose inner classes are not above this one.
    for middle in classes:
        for at in classes:
            for by in classes:
                if (at, middle) in held and (middle, by) in held:
                    held[(at, by)] = True
    return sorted([pair for pair in held if pair[0] != pair[1]])


def order_ring(scale):
    """Two different classes each of which is worse than the other one, or None."""
    found = worse(scale)
    for at, by in found:
        if (by, at) in found:
            return at, by
    return None


def ranks(scale):
    """For each class the number of classes that it is worse than, or None if some are worse than each other."""
    if order_ring(scale) is not None:
        return None
    found = worse(scale)
    return [len([by for more, by in found if more == at]) for at in range(len(scale))]
