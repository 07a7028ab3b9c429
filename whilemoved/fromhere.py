"""What can be done from a stretch of a plan on: further, back, or without a place that is lost."""

from whilemoved.forms import is_task
from whilemoved.layouts import layouts_along, led, led_by, places_of, stretch_writing
from whilemoved.writes import fewest_writes, has_plan


def layout_at(task, plan, index):
    return led_by(task[1], plan[:index])


def task_from(task, plan, index):
    return (task[0], layout_at(task, plan, index), task[2])


def writes_left(task, plan):
    return tuple([fewest_writes(task_from(task, plan, index)) for index in range(len(plan) + 1)])


def stretch_back(layout, ahead, stretch):
    """The stretch that writes, at a layout, what stood ahead of a stretch at its places, () if nothing did."""
    places = places_of(stretch)
    # The places that were open are no sources either: what is left there was written by the stretch.
    known = tuple([None if place in places else item for place, item in enumerate(layout)])
    return stretch_writing(known, {place: ahead[place] for place in places if ahead[place] is not None})


def back_plan(task, plan, index):
    layouts = layouts_along(task[1], plan[:index])
    found, layout = [], layouts[-1]
    for at in reversed(range(index)):
        stretch = stretch_back(layout, layouts[at], plan[at])
        if len(stretch) > 0:
            found.append(stretch)
            layout = led(layout, stretch)
    return tuple(found)


def without_place(layout, place):
    return layout[:place] + layout[place + 1:]


def lost_task(task, place):
    left = (task[0], without_place(task[1], place), without_place(task[2], place))
    return left if is_task(left) else None


def places_to_spare(task):
    return tuple([place for place in range(len(task[1])) if lost_task(task, place) is not None])


def lost_amid(task, plan, index):
    left = task_from(task, plan, index)
    return tuple([place for place in places_to_spare(left) if has_plan(lost_task(left, place))])
