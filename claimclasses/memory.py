"""Memory: whether, and behind which years, the class of a policy does not depend on its class before."""

from claimclasses.pairs import class_pairs, explored, first_return, pair_moves, way_along
from claimclasses.scales import shortest_rows


def settled(held, step):
    """What is left if the step is taken until it leaves as many as before, and the number of steps that left fewer."""
    further = step(held)
    steps = 0
    while len(further) < len(held):
        held = further
        further = step(held)
        steps += 1
    return held, steps


def led_classes(scale, held, claims):
    return sorted({scale(at, claims) for at in held})


def lasting_classes(scale, claims):
    """The classes in which a policy can be behind ever more years with so many claims, and the first such years.

    Each year leads into classes that were left before it; once it leads into all of them, all later years do.
    As a scale has at least one class, it is always asked about these claims, and it refuses them if they are wrong.
    """
    return settled(list(range(len(scale))), lambda held: led_classes(scale, held, claims))


def apart_moves(scale):
    """For each pair of different classes the pairs to which the columns lead."""
    return {pair: leads for pair, leads in class_pairs(scale).items() if pair[0] != pair[1]}


def lasting_pairs(moves, needed):
    """The pairs that are left if pairs are dropped, round by round, and the number of these rounds.

    Each round drops those from which fewer columns than needed lead to pairs that were left before it.
    """
    return settled(list(moves), lambda held: led_on(moves, held, needed))


def led_on(moves, held, needed):
    left = {pair: True for pair in held}
    return [pair for pair in held if len([to for to in moves[pair] if to in left]) >= needed]


def forgotten(scale, claims=0):
    """The least number of years with so many claims that forget the class before, and the class behind, or None."""
    left, years = lasting_classes(scale, claims)
    return (years, left[0]) if len(left) == 1 else None


def kept_apart(scale, claims=0):
    """Two classes and a number of years with so many claims that lead from each back to itself, or None."""
    left = lasting_classes(scale, claims)[0]
    if len(left) == 1:
        return None
    # Each year leads from the classes that are left to all of these again, so some number of years leads back.
    first = (left[0], left[1])
    pair = (scale(left[0], claims), scale(left[1], claims))
    years = 1
    while pair != first:
        pair = (scale(pair[0], claims), scale(pair[1], claims))
        years += 1
    return left[0], left[1], years


def uniting_row(scale):
    """A shortest row behind which a policy is in one class, whatever its class was before, or None."""
    everywhere = tuple(range(len(scale)))
    moves = explored(everywhere, lambda held: [tuple(led_classes(scale, held, k)) for k in range(scale.columns)])
    rows = shortest_rows(moves, everywhere)
    # The shorter rows stand first.
    for classes in rows:
        if len(classes) == 1:
            return rows[classes]
    return None


def meeting_row(scale, at, by):
    """A shortest row behind which policies of two classes are in the same class, or None."""
    rows = shortest_rows(pair_moves(scale, at, scale, by), (at, by))
    # The shorter rows stand first.
    for pair in rows:
        if pair[0] == pair[1]:
            return rows[pair]
    return None


def never_meeting(scale):
    """Pairs of classes from which each column leads to such pairs, or None if there is a uniting row."""
    held = lasting_pairs(apart_moves(scale), scale.columns)[0]
    # They are those that have no meeting row, and stand there both ways round.
    return [(at, by) for at, by in held if at < by] if held else None


def is_never_meeting(scale, pairs):
    """Whether these are pairs of classes, at least one, from which each column leads to such pairs."""
    held = {pair: True for pair in pairs}
    return len(held) > 0 and all([stays_apart(scale, at, by, held) for at, by in held])


def stays_apart(scale, at, by, held):
    if at not in scale or by not in scale or at >= by:
        return False
    return all([tuple(sorted([scale(at, k), scale(by, k)])) in held for k in range(scale.columns)])


def always_forgotten(scale):
    """The least number of years behind which the class before is forgotten, whatever the row, or None."""
    # Behind so many rounds just those pairs are left that some row of so many years keeps apart.
    held, rounds = lasting_pairs(apart_moves(scale), 1)
    return None if held else rounds


def kept_ring(scale):
    """Two classes and a row that leads from each of them back to itself, or None."""
    moves = apart_moves(scale)
    held = lasting_pairs(moves, 1)[0]
    if not held:
        return None
    row = []
    pair = held[0]
    # So many years come to one pair more than are left, and so to one of them twice.
    while len(row) < len(held):
        row.append(first_column_into(moves[pair], held))
        pair = moves[pair][row[-1]]
    way = way_along(moves, held[0], row)
    low, high = first_return(way)
    at, by = way[low]
    return at, by, row[low:high]


def first_column_into(leads, held):
    return [to in held for to in leads].index(True)


def classes_after(scale, row):
    """The classes in which a policy can be behind a row, if its class before is not known."""
    return sorted({scale.classes(at, row)[-1] for at in range(len(scale))})
