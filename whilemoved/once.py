"""What one stretch can do."""

from whilemoved.layouts import rooms, stretch_writing, wrong_places


def over_tails(task):
    needs, old = task[0], task[1]
    tails, spare = [old[place] for place in wrong_places(task)], rooms(needs, old)
    return {
        value: (tails.count(value), spare[value]) for value in range(len(needs)) if tails.count(value) > spare[value]}


def can_once(task):
    return len(over_tails(task)) == 0


def once_plan(task):
    old, wish = task[1], task[2]
    if not can_once(task):
        return None
    wanted = {place: wish[place] for place in wrong_places(task)}
    return (stretch_writing(old, wanted),) if len(wanted) > 0 else ()
