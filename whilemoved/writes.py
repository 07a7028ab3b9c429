"""The fewest writes of all safe plans of a task."""

from whilemoved.layouts import staying_places
from whilemoved.parts import counts_of, places_with_room


def has_plan(task):
    wrong, closed = counts_of(task)
    return wrong == 0 or closed == 0 or len(places_with_room(task)) > 0


def needs_one_more(task):
    """Whether a copy aside can only go to a place that has to be put back in the end."""
    closed, roomy, staying = counts_of(task)[1], places_with_room(task), staying_places(task)
    return closed > 0 and len(roomy) > 0 and all([place in staying for place in roomy])


def fewest_writes(task):
    if not has_plan(task):
        return None
    wrong, closed = counts_of(task)
    return wrong + closed + (1 if needs_one_more(task) else 0)
