"""What two stretches can do: which free places are filled early, and to what each arrow is charged."""

from whilemoved.forms import is_below, is_integer
from whilemoved.layouts import free_places, led, rooms, stretch_writing, wrong_places

CHARGES = ("tail", "head", "pool")


def fillable(task):
    """For each value how many of the free places that hold it may be filled."""
    needs, old = task[0], task[1]
    held, spare = [old[place] for place in free_places(task)], rooms(needs, old)
    return [min(held.count(value), spare[value]) for value in range(len(needs))]


def fills_of(task):
    rows = [()]
    for most in fillable(task):
        rows = [row + (many,) for row in rows for many in range(most + 1)]
    return [{value: many for value, many in enumerate(row) if many > 0} for row in rows]


def is_fill(task, thing):
    if not isinstance(thing, dict) or not all([is_below(len(task[0]), value) for value in thing]):
        return False
    most = fillable(task)
    return all([is_below(most[value] + 1, thing[value]) and thing[value] > 0 for value in thing])


def bearing(task, fill):
    needs, old, wish = task
    held = [old[place] for place in free_places(task)]
    before, behind = rooms(needs, old), rooms(needs, wish)
    tails, heads = {}, {}
    for value in range(len(needs)):
        filled = fill.get(value, 0)
        tails[value] = before[value] - filled
        heads[value] = behind[value] + held.count(value) - filled
    return (tails, heads, held.count(None) + sum([fill[value] for value in fill]))


def charged_places(task):
    """The wrong places that are not open."""
    return [place for place in wrong_places(task) if task[1][place] is not None]


def bearer_of(task, place, charge):
    """What bears a wrong place that is charged so: a value as a tail, one as a head, or the pool."""
    if charge == "tail":
        return (charge, task[1][place])
    if charge == "head":
        return (charge, task[2][place])
    return ("pool", None)


def borne_by(task, fill):
    """The dict from each bearer to how many it bears."""
    tails, heads, pool = bearing(task, fill)
    found = {("pool", None): pool}
    for value in range(len(task[0])):
        found[("tail", value)] = tails[value]
        found[("head", value)] = heads[value]
    return found


def charged_to(task, charges, bearer):
    return [place for place in charges if bearer_of(task, place, charges[place]) == bearer]


def way_to_room(task, borne, charges, place):
    """The way from a place to all that may bear it, on to the places charged to these, and so on.

    Returns the first bearer on it that bears one more, None if none does, and the dict from each bearer
    that was come to, to the place from which.
    """
    came, ahead = {}, [place]
    while len(ahead) > 0:
        at = ahead.pop(0)
        for charge in CHARGES:
            bearer = bearer_of(task, at, charge)
            if bearer not in came:
                came[bearer] = at
                there = charged_to(task, charges, bearer)
                if len(there) < borne[bearer]:
                    return (bearer, came)
                ahead.extend(there)
    return (None, came)


def recharged(task, charges, came, bearer):
    """The charges behind a way to a bearer: each place on it is charged to what was come to from it."""
    found = {place: charges[place] for place in charges}
    place = came[bearer]
    while place in charges:
        found[place] = bearer[0]
        bearer = bearer_of(task, place, charges[place])
        place = came[bearer]
    found[place] = bearer[0]
    return found


def charges_with(task, fill):
    """A tuple of charges and None, or, if not all can be charged, of None and a dict from full bearers.

    The places that have a charge to one of these, and one more, can be charged to nothing else than to these.
    """
    borne, charges = borne_by(task, fill), {}
    for place in charged_places(task):
        bearer, came = way_to_room(task, borne, charges, place)
        if bearer is None:
            return (None, came)
        charges = recharged(task, charges, came, bearer)
    return (charges, None)


def charging(task):
    for fill in fills_of(task):
        charges = charges_with(task, fill)[0]
        if charges is not None:
            return (fill, charges)
    return None


def is_charging(task, thing):
    if not isinstance(thing, tuple) or len(thing) != 2 or not is_fill(task, thing[0]):
        return False
    fill, charges = thing
    if not isinstance(charges, dict) or not all([is_integer(place) for place in charges]):
        return False
    if sorted(charges) != charged_places(task) or not all([charges[place] in CHARGES for place in charges]):
        return False
    borne = borne_by(task, fill)
    return all([len(charged_to(task, charges, bearer)) <= borne[bearer] for bearer in borne])


def can_twice(task):
    return charging(task) is not None


def pool_of(task, fill):
    """The open free places, and as many of the free places that hold each value as are filled of it."""
    free, old = free_places(task), task[1]
    found = [place for place in free if old[place] is None]
    for value in sorted(fill):
        found.extend([place for place in free if old[place] == value][:fill[value]])
    return found


def early_and_late(task, fill, charges):
    """What a first and a second stretch write by a charging: two dicts from places to values."""
    wish = task[2]
    late = {place: wish[place] for place in charges if charges[place] != "tail"}
    early = {place: wish[place] for place in wrong_places(task) if place not in late}
    # While the second stretch goes on, what the pool is to bear has to stand there already.
    pooled = [wish[place] for place in charges if charges[place] == "pool"]
    for place, value in zip(pool_of(task, fill), pooled):
        early[place] = value
    return (early, late)


def twice_plan(task):
    found = charging(task)
    if found is None:
        return None
    plan, layout = [], task[1]
    for wanted in early_and_late(task, found[0], found[1]):
        if len(wanted) > 0:
            plan.append(stretch_writing(layout, wanted))
            layout = led(layout, plan[-1])
    return tuple(plan)
