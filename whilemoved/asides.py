"""The writes of a safe plan that go aside, and why there are no fewer."""

from whilemoved.errors import NotDone, NotSafe
from whilemoved.forms import is_pair
from whilemoved.judge import first_unsafe
from whilemoved.layouts import led_by, places_of, staying_places, values_written, wrong_places
from whilemoved.parts import closed_parts, places_with_room
from whilemoved.writes import needs_one_more


def check_safe(task, plan):
    """Raises what is to be told of a plan that is no safe plan of the task."""
    unsafe = first_unsafe(task, plan)
    if unsafe is not None:
        raise NotSafe(unsafe[0])
    left = wrong_places((task[0], led_by(task[1], plan), task[2]))
    if len(left) > 0:
        raise NotDone(left[0])


def is_last(plan, index, place):
    return not any([place in places_of(stretch) for stretch in plan[index + 1:]])


def writes_in(plan):
    return [(index, place) for index, stretch in enumerate(plan) for place in places_of(stretch)]


def last_writes(plan):
    return [(index, place) for index, place in writes_in(plan) if is_last(plan, index, place)]


def asides_of(task, plan):
    check_safe(task, plan)
    wrong = wrong_places(task)
    needed = [(index, place) for index, place in last_writes(plan) if place in wrong]
    return [write for write in writes_in(plan) if write not in needed]


def asides_for(task, plan, part):
    """The writes aside of a value that is a tail in a part, at places that are not in it."""
    old = task[1]
    values, tails = values_written(old, plan), [old[place] for place in part]
    return [write for write in asides_of(task, plan) if values[write] in tails and write[1] not in part]


def writes_back(task, plan):
    """The last writes at places that stay and have room."""
    roomy, staying = places_with_room(task), staying_places(task)
    return [(index, place) for index, place in last_writes(plan) if place in staying and place in roomy]


def aside_paper(task, plan):
    check_safe(task, plan)
    writes = tuple([asides_for(task, plan, part)[0] for part in closed_parts(task)])
    return (writes, writes_back(task, plan)[0] if needs_one_more(task) else None)


def is_one_of(task, plan, writes, thing):
    return is_pair(len(plan), len(task[1]), thing) and thing in writes


def is_aside_paper(task, plan, thing):
    check_safe(task, plan)
    if not isinstance(thing, tuple) or len(thing) != 2:
        return False
    writes, more = thing
    parts = closed_parts(task)
    if not isinstance(writes, tuple) or len(writes) != len(parts):
        return False
    if not all([is_one_of(task, plan, asides_for(task, plan, part), writes[at]) for at, part in enumerate(parts)]):
        return False
    if needs_one_more(task):
        return is_one_of(task, plan, writes_back(task, plan), more)
    return more is None
