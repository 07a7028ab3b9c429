"""Which places a linear layout can lose, all values still being told."""

from itertools import combinations

from whilemoved.ranks import outside_of, tells_all


def breaking_lot_of(prime, many, layout, outside, size):
    """The least lot of so many places outside without which the others outside do not tell all, None if none is."""
    for some in combinations(outside, size):
        if not tells_all(prime, many, layout, [place for place in outside if place not in some]):
            return some
    return None


def breaking_lot(prime, many, layout, lot):
    if many == 0:
        return None
    outside, size, found = outside_of(layout, lot), 0, None
    # If all places outside are lost, no value is told: there is such a lot.
    while found is None:
        found = breaking_lot_of(prime, many, layout, outside, size)
        size += 1
    return found


def borne(prime, many, layout, lot):
    breaking = breaking_lot(prime, many, layout, lot)
    if breaking is None:
        return len(outside_of(layout, lot))
    return len(breaking) - 1 if len(breaking) > 0 else None
