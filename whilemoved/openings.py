"""What the writes aside of a sum plan open: why sums spare no more than they do."""

from whilemoved.forms import is_integer
from whilemoved.layouts import wrong_places
from whilemoved.parts import closed_parts
from whilemoved.ranks import factors_for, form_of, is_form
from whilemoved.sumplans import forms_along, forms_of, reading, written_by


def writes_of_sums(plan):
    return [(index, place) for index, stretch in enumerate(plan) for place in written_by(stretch)]


def asides(task, plan):
    wrong = wrong_places(task)
    # Of the writes of one place the last one stays in the dict.
    last = {place: index for index, place in writes_of_sums(plan)}
    return [(index, place) for index, place in writes_of_sums(plan) if place not in wrong or last[place] != index]


def opening_of(task, plan, part):
    # The least write is of the first stretch, and there of the least place.
    index, place = min([write for write in writes_of_sums(plan) if write[1] in part])
    return (index, task[1][place])


def openings(task, plan):
    return {at: opening_of(task, plan, part) for at, part in enumerate(closed_parts(task))}


def layouts_of(prime, task, plan):
    """The linear layouts ahead of each stretch of a sum plan of a task, and behind the last one."""
    return forms_along(prime, forms_of(len(task[0]), task[1]), plan)


def aside_now(task, plan, index):
    """The places at which a write aside stands ahead of a stretch."""
    ahead = {place: earlier for earlier, place in writes_of_sums(plan[:index])}
    return [place for earlier, place in asides(task, plan) if place in ahead and ahead[place] == earlier]


def opened_row(prime, task, r, plan, opening):
    """What the writes aside bring to the sum that tells the value of an opening.

    All other places tell the own forms of other values: the value stood in the part alone.
    """
    index, value = opening
    many, layout = len(task[0]), layouts_of(prime, task, plan)[index]
    told = reading(prime, many, layout, written_by(plan[index]), r)[value]
    places = aside_now(task, plan, index)
    return form_of(prime, many, layout, [(place, factor) for place, factor in told if place in places])


def opened_rows(prime, task, r, plan):
    found = openings(task, plan)
    return {at: opened_row(prime, task, r, plan, found[at]) for at in found}


def is_opened_row(prime, task, r, value, forms, thing):
    if not is_form(prime, len(task[0]), thing) or thing[value] != 1:
        return False
    others = [at for at, item in enumerate(thing) if at != value and item != 0]
    return len(others) < r and factors_for(prime, forms, thing) is not None


def is_opened_rows(prime, task, r, plan, thing):
    found = openings(task, plan)
    if not isinstance(thing, dict) or not all([is_integer(at) for at in thing]) or sorted(thing) != list(found):
        return False
    layouts = layouts_of(prime, task, plan)
    forms = [layouts[index + 1][place] for index, place in asides(task, plan)]
    return all([is_opened_row(prime, task, r, found[at][1], forms, thing[at]) for at in found])
