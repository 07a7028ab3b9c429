"""Whether stretches and plans are safe, and how many losses they bear."""

from whilemoved.forms import is_plan
from whilemoved.layouts import does, layouts_along, places_of, standings


def left_standings(needs, layout, stretch):
    places = places_of(stretch)
    return standings(needs, tuple([item for place, item in enumerate(layout) if place not in places]))


def lacking_values(needs, layout, stretch):
    """The values that have fewer standings outside the places of a stretch than they need."""
    left = left_standings(needs, layout, stretch)
    return [value for value, need in enumerate(needs) if left[value] < need]


def is_safe(needs, layout, stretch):
    return len(lacking_values(needs, layout, stretch)) == 0


def first_unsafe(task, plan):
    needs, old = task[0], task[1]
    # All layouts come first: a stretch that cannot be done is told ahead of an earlier one that is not safe.
    layouts = layouts_along(old, plan)
    for index, stretch in enumerate(plan):
        lacking = lacking_values(needs, layouts[index], stretch)
        if len(lacking) > 0:
            return (index, lacking[0])
    return None


def is_safe_plan(task, thing):
    return is_plan(len(task[1]), thing) and does(task, thing) and first_unsafe(task, thing) is None


def borne_losses(task, plan):
    needs, old = task[0], task[1]
    layouts = layouts_along(old, plan)
    if len(needs) == 0:
        return len(old)
    moments = [standings(needs, layout) for layout in layouts]
    moments.extend([left_standings(needs, layouts[index], stretch) for index, stretch in enumerate(plan)])
    return min([min(moment) for moment in moments]) - 1
