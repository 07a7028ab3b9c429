"""Plans with the fewest writes, and the copies with which they can begin."""

from whilemoved.layouts import wrong_places
from whilemoved.parts import places_with_room
from whilemoved.writes import fewest_writes, has_plan


def written(task, place, value):
    """The task that is left when a value has been written at a place."""
    needs, old, wish = task
    return (needs, old[:place] + (value,) + old[place + 1:], wish)


def is_nearer(task, place, value):
    """Whether behind such a write, at a place that has room, one write less is to be done."""
    return fewest_writes(written(task, place, value)) + 1 == fewest_writes(task)


def sources_of(task, value):
    return [source for source, item in enumerate(task[1]) if item == value]


def nearer_copies(task, place):
    needs = task[0]
    fitting = [value for value in range(len(needs)) if is_nearer(task, place, value)]
    # None of these values stands at the place already: no place is its own source.
    return sorted([(place, source) for value in fitting for source in sources_of(task, value)])


def can_begin(task):
    found = []
    # A copy alone is safe exactly at a place that has room. There is none if no plan is.
    for place in places_with_room(task):
        found.extend(nearer_copies(task, place))
    return found


def first_write(task):
    """The first write, as place and value, that leaves one write less."""
    for place in places_with_room(task):
        for value in range(len(task[0])):
            if is_nearer(task, place, value):
                return (place, value)
    return None


def fewest_plan(task):
    if not has_plan(task):
        return None
    plan, left = [], task
    while len(wrong_places(left)) > 0:
        place, value = first_write(left)
        plan.append(((place, sources_of(left, value)[0]),))
        left = written(left, place, value)
    return tuple(plan)
