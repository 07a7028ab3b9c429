"""Layouts, what the places of a task are, and what stretches and plans make of layouts."""

from whilemoved.errors import CannotDo


def standings(needs, layout):
    return tuple([layout.count(value) for value in range(len(needs))])


def rooms(needs, layout):
    return tuple([layout.count(value) - need for value, need in enumerate(needs)])


def wrong_places(task):
    old, wish = task[1], task[2]
    return tuple([place for place, item in enumerate(wish) if item is not None and item != old[place]])


def staying_places(task):
    old, wish = task[1], task[2]
    return tuple([place for place, item in enumerate(wish) if item is not None and item == old[place]])


def empty_places(layout):
    """The places that have None: open ones of a layout, free ones of a wish."""
    return tuple([place for place, item in enumerate(layout) if item is None])


def free_places(task):
    return empty_places(task[2])


def open_places(task):
    return empty_places(task[1])


def places_of(stretch):
    return tuple([place for place, source in stretch])


def can_be_done(layout, stretch):
    return all([layout[source] is not None for place, source in stretch])


def led(layout, stretch):
    after = list(layout)
    for place, source in stretch:
        after[place] = layout[source]
    return tuple(after)


def stretch_writing(layout, wanted):
    """The stretch that writes the values that a dict has for places, each one from the least place outside."""
    outside = [source for source in range(len(layout)) if source not in wanted]
    return tuple([
        (place, [source for source in outside if layout[source] == wanted[place]][0]) for place in sorted(wanted)])


def layouts_along(layout, plan):
    """The list of the layouts ahead of each stretch of a plan, and of the one behind the last."""
    layouts = [layout]
    for index, stretch in enumerate(plan):
        if not can_be_done(layouts[-1], stretch):
            raise CannotDo(index)
        layouts.append(led(layouts[-1], stretch))
    return layouts


def led_by(layout, plan):
    return layouts_along(layout, plan)[-1]


def does(task, plan):
    try:
        last = led_by(task[1], plan)
    except CannotDo:
        return False
    return all([item is None or item == last[place] for place, item in enumerate(task[2])])


def writes_of(plan):
    return sum([len(stretch) for stretch in plan])


def values_written(layout, plan):
    """The dict from each write of a plan, told by (index, place), to the value that it writes."""
    layouts = layouts_along(layout, plan)
    return {(index, place): layouts[index][source] for index, stretch in enumerate(plan) for place, source in stretch}
