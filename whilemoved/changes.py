"""Tasks that are made of other tasks."""

from whilemoved.parts import closed_parts


def renamed_layout(layout, values, places):
    return tuple([None if layout[place] is None else values.index(layout[place]) for place in places])


def renamed(task, values, places):
    needs, old, wish = task
    new_needs = tuple([needs[value] for value in values])
    return (new_needs, renamed_layout(old, values, places), renamed_layout(wish, values, places))


def moved_up(layout, many):
    """A layout with so many more in the place of each value."""
    return tuple([None if value is None else value + many for value in layout])


def beside(one, other):
    many = len(one[0])
    return (one[0] + other[0], one[1] + moved_up(other[1], many), one[2] + moved_up(other[2], many))


def turned(task):
    needs, old, wish = task
    return (needs, wish, old)


def with_spare(task, many):
    needs, old, wish = task
    spare = (None,) * many
    return (needs, old + spare, wish + spare)


def without_part(task, index):
    needs, old, wish = task
    part = closed_parts(task)[index]
    return (needs, old, tuple([old[place] if place in part else item for place, item in enumerate(wish)]))
