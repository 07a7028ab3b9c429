"""What two stretches of linear tasks can do, and why not: no place is free here."""

from whilemoved.forms import is_lot
from whilemoved.ranks import factors_for, led_forms, outside_of, rank_of, tells_all, wrong_forms


def spares(task, side, lot):
    """Whether the places outside a lot tell all, in old (side 0) or in wish (side 1)."""
    layout = task[2 + side]
    return tells_all(task[0], task[1], layout, outside_of(layout, lot))


def with_place(lot, place):
    return lot + [place]


def without_place(lot, place):
    return [other for other in lot if other != place]


def way_to_lot(task, lots, place):
    """The way from a place to what has to leave a lot so that it can come in, and so on.

    Returns the first place on it that can come in without that, and the side of its lot, None of both if
    none can; and the dict from each place that was come to, to the tuple (place that takes its place, side).
    A shortest way is looked for: only then all the exchanges on it can be done together.
    """
    came, ahead = {place: None}, [place]
    while len(ahead) > 0:
        at = ahead.pop(0)
        for side in (0, 1):
            if at in lots[side]:
                continue
            larger = with_place(lots[side], at)
            if spares(task, side, larger):
                return (at, side, came)
            for other in lots[side]:
                if other not in came and spares(task, side, without_place(larger, other)):
                    came[other] = (at, side)
                    ahead.append(other)
    return (None, None, came)


def exchanged(lots, came, place, side):
    """The lots behind a way to a place that comes into the lot of a side."""
    found = [list(lot) for lot in lots]
    found[side].append(place)
    while came[place] is not None:
        taker, left = came[place]
        found[left] = with_place(without_place(found[left], place), taker)
        place = taker
    return found


def parted(task):
    """A tuple of the parting lots and None, or, if there are none, of None and a barring lot.

    The places come in one by one. From one that cannot the way leads to all that would have to leave for
    it, and these are too many for both lots.
    """
    lots = [[], []]
    for place in wrong_forms(task):
        last, side, came = way_to_lot(task, lots, place)
        if last is None:
            return (None, tuple(sorted(came)))
        lots = exchanged(lots, came, last, side)
    return (tuple([tuple(sorted(lot)) for lot in lots]), None)


def parting_lots(task):
    return parted(task)[0]


def barring_lot(task):
    return parted(task)[1]


def is_parting(task, thing):
    many = len(task[2])
    if not isinstance(thing, tuple) or len(thing) != 2 or not is_lot(many, thing[0]) or not is_lot(many, thing[1]):
        return False
    if tuple(sorted(thing[0] + thing[1])) != wrong_forms(task):
        return False
    return spares(task, 0, thing[0]) and spares(task, 1, thing[1])


def is_barring(task, thing):
    prime, many, old, wish = task
    wrong = wrong_forms(task)
    if not is_lot(len(old), thing) or not all([place in wrong for place in thing]):
        return False
    outside = outside_of(old, thing)
    ranks = [rank_of(prime, [layout[place] for place in outside]) for layout in (old, wish)]
    return sum(ranks) + len(thing) < 2 * many


def sum_telling(prime, layout, outside, form):
    """A sum of some places that has a form: they tell all, and it is not 0 all over."""
    factors = factors_for(prime, [layout[source] for source in outside], form)
    return tuple([(source, factor) for source, factor in zip(outside, factors) if factor != 0])


def sums_writing(prime, layout, wanted):
    """The sum stretch that writes the forms that a dict has for places, the other places telling all."""
    outside = outside_of(layout, wanted)
    return tuple([(place, sum_telling(prime, layout, outside, wanted[place])) for place in sorted(wanted)])


def two_plan(task):
    prime, layout, wish = task[0], task[2], task[3]
    lots = parting_lots(task)
    if lots is None:
        return None
    plan = []
    for lot in lots:
        if len(lot) > 0:
            plan.append(sums_writing(prime, layout, {place: wish[place] for place in lot}))
            layout = led_forms(prime, layout, plan[-1])
    return tuple(plan)
