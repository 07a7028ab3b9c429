"""How often the place that is written most often is written, and what sizes of values and places let come."""

from whilemoved.layouts import free_places, places_of, wrong_places
from whilemoved.parts import closed_parts, rounds_of, values_in
from whilemoved.prices import plan_of, put_in, staying_first, writable_first, writes_of_open, writes_of_rounds
from whilemoved.writes import has_plan


def wear_of(plan):
    written = [place for stretch in plan for place in places_of(stretch)]
    return max([written.count(place) for place in written], default=0)


def least_wear(task):
    if not has_plan(task):
        return None
    if len(wrong_places(task)) == 0:
        return 0
    return 1 if len(closed_parts(task)) <= len(free_places(task)) else 2


def nested_writes(task, first, parts):
    """The writes of closed parts, each but the first one begun with a copy at the first place of the one ahead.

    What stood there has been copied aside just ahead of that, so there is room until it is its turn.
    """
    old, wish = task[1], task[2]
    begun, done, aside = [], [], first
    for part in parts:
        row = rounds_of(task, part)
        begun.append((aside, old[row[0]]))
        done = [(place, wish[place]) for place in row] + done
        aside = row[0]
    return begun + done


def even_plan(task):
    if not has_plan(task):
        return None
    writes, parts, free = writes_of_open(task), closed_parts(task), free_places(task)
    if len(parts) <= len(free):
        blocks = [(free[at], writes_of_rounds(task, free[at], [part])) for at, part in enumerate(parts)]
    else:
        first = (writable_first(task) + staying_first(task))[0]
        blocks = [(first, nested_writes(task, first, parts))]
    return plan_of(task, put_in(task, writes, blocks))


def fits(sizes, layout):
    return all([value is None or sizes[0][value] <= sizes[1][place] for place, value in enumerate(layout)])


def is_roomy(task, sizes, size):
    """Whether there are more places of a size or more than values of it or more need."""
    places = [place for place in sizes[1] if place >= size]
    return len(places) > sum([need for value, need in enumerate(task[0]) if sizes[0][value] >= size])


def lacking_size(task, sizes):
    for index, part in enumerate(closed_parts(task)):
        least = min([sizes[0][value] for value in values_in(task, part)])
        for size in range(1, least + 1):
            if not is_roomy(task, sizes, size):
                return (index, size)
    return None


def can_come(task, sizes):
    return lacking_size(task, sizes) is None
