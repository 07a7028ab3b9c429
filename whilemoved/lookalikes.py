"""Two contents that nobody can tell apart while a stretch that is not safe goes on."""

from whilemoved.forms import is_integer, is_lot
from whilemoved.judge import first_unsafe, lacking_values
from whilemoved.layouts import layouts_along, places_of


def places_left(layout, stretch, value):
    """The places that have a value and are none of those of a stretch."""
    places = places_of(stretch)
    return tuple([place for place, item in enumerate(layout) if item == value and place not in places])


def lookalike_of(needs, layout, stretch, value):
    other = tuple([1 if at == value else 0 for at in range(len(needs))])
    return (places_left(layout, stretch, value), (0,) * len(needs), other)


def lookalike(needs, layout, stretch):
    lacking = lacking_values(needs, layout, stretch)
    if len(lacking) == 0:
        return None
    return lookalike_of(needs, layout, stretch, lacking[0])


def is_contents(needs, thing):
    return isinstance(thing, tuple) and len(thing) == len(needs) and all([is_integer(item) for item in thing])


def is_lookalike(needs, layout, stretch, thing):
    if not isinstance(thing, tuple) or len(thing) != 3:
        return False
    lost, one, other = thing
    if not is_lot(len(layout), lost) or not is_contents(needs, one) or not is_contents(needs, other):
        return False
    unlike = [value for value in range(len(needs)) if one[value] != other[value]]
    if len(unlike) != 1:
        return False
    return lost == places_left(layout, stretch, unlike[0]) and len(lost) < needs[unlike[0]]


def first_lookalike(task, plan):
    unsafe = first_unsafe(task, plan)
    if unsafe is None:
        return None
    index, value = unsafe
    layout = layouts_along(task[1], plan)[index]
    return (index, lookalike_of(task[0], layout, plan[index], value))
