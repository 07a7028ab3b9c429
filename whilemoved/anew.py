"""New contents of values, the old ones being kept until the new ones count."""

from whilemoved.errors import NoNew
from whilemoved.forms import is_lot
from whilemoved.layouts import rooms


def open_and_spare(needs, layout):
    """How many places may be given up: the open ones, and the rooms of all values."""
    return layout.count(None) + sum(rooms(needs, layout))


def can_change(needs, layout, value):
    return open_and_spare(needs, layout) >= needs[value]


def least_fit(needs, layout, value):
    """The least lot that is fit, if there is one: each place that may be given up still is taken, the least first."""
    found, spare = [], list(rooms(needs, layout))
    for place, item in enumerate(layout):
        if len(found) < needs[value] and (item is None or spare[item] > 0):
            found.append(place)
            if item is not None:
                spare[item] -= 1
    return tuple(found)


def behind(layout, value, lot):
    """The layout behind a lot of places on which a value got its new content."""
    kept = [None if item == value else item for item in layout]
    return tuple([value if place in lot else item for place, item in enumerate(kept)])


def changed(needs, layout, value):
    if not can_change(needs, layout, value):
        raise NoNew(value)
    lot = least_fit(needs, layout, value)
    return (lot, behind(layout, value, lot))


def is_fit(needs, layout, value, thing):
    if not is_lot(len(layout), thing) or len(thing) != needs[value]:
        return False
    left = [item for place, item in enumerate(layout) if place not in thing]
    return all([left.count(other) >= need for other, need in enumerate(needs)])


def changed_one_by_one(needs, layout, values):
    lots = []
    for value in values:
        lot, layout = changed(needs, layout, value)
        lots.append(lot)
    return (tuple(lots), layout)
