"""The least price of all safe plans, and plans that have it."""

from whilemoved.fewest import fewest_plan
from whilemoved.layouts import free_places, led, staying_places, stretch_writing, wrong_places
from whilemoved.parts import closed_parts, open_parts, places_with_room, rounds_of, values_in
from whilemoved.writes import has_plan

# Ways in which copies aside go to one place: all but the first one; all, as it serves first; or all, what it
# keeps having been copied aside ahead of them. Of ways of one price the first one is taken.
LATER = 0
ALL_FIRST = 1
ALL_BEHIND = 2


def price_of(plan, prices):
    return sum([prices[place] for stretch in plan for place, source in stretch])


def staying_first(task):
    """The places that stay and may serve first: there is a moment at which they have room."""
    heads = [task[2][place] for part in open_parts(task) for place in part]
    roomy = places_with_room(task)
    return [place for place in staying_places(task) if place in roomy or task[1][place] in heads]


def writable_first(task):
    """The places that may serve first and need not be written back."""
    return list(free_places(task)) + [place for part in open_parts(task) for place in part]


def staying_closed(task):
    """The places that stay and have a value of a closed part."""
    values = [value for part in closed_parts(task) for value in values_in(task, part)]
    return [place for place in staying_places(task) if task[1][place] in values]


def cheapest_first(task, prices):
    """The least tuple (price, place) of a place that may serve first."""
    once = [(prices[place], place) for place in writable_first(task)]
    return min(once + [(2 * prices[place], place) for place in staying_first(task)])


def cheapest_aside(task, prices):
    """The least tuple (price, way, place) of all copies aside and back, if there is a closed part, and a plan."""
    many, first = len(closed_parts(task)), cheapest_first(task, prices)[0]
    staying = staying_places(task)
    found = [(first + (many - 1) * price, LATER, place) for place, price in enumerate(prices) if place not in staying]
    found.extend([(first + many * prices[place], LATER, place) for place in staying_closed(task)])
    found.extend([((many + 1) * prices[place], ALL_FIRST, place) for place in staying_first(task)])
    found.extend([(first + (many + 1) * prices[place], ALL_BEHIND, place) for place in staying])
    return min(found)


def price_parts(task, prices):
    if not has_plan(task):
        return None
    wrong = sum([prices[place] for place in wrong_places(task)])
    return (wrong, cheapest_aside(task, prices)[0] if len(closed_parts(task)) > 0 else 0)


def least_price(task, prices):
    parts = price_parts(task, prices)
    return None if parts is None else parts[0] + parts[1]


def writes_of_open(task):
    """Tuples (place, value) that write each place of the open parts once, in a safe order."""
    needs, old, wish = task
    closed = [place for part in closed_parts(task) for place in part]
    rest = tuple([old[place] if place in closed else item for place, item in enumerate(wish)])
    return [(place, wish[place]) for stretch in fewest_plan((needs, old, rest)) for place, source in stretch]


def writes_of_rounds(task, aside, parts):
    """The writes of closed parts one behind the other, all of which are begun with a copy at one place."""
    old, wish = task[1], task[2]
    found = []
    for part in parts:
        row = rounds_of(task, part)
        found.append((aside, old[row[0]]))
        found.extend([(place, wish[place]) for place in row])
    return found


def layout_behind(task, writes):
    layout = list(task[1])
    for place, value in writes:
        layout[place] = value
    return tuple(layout)


def has_room_behind(task, writes, place):
    return place in places_with_room((task[0], layout_behind(task, writes), task[2]))


def moment_of(task, writes, place):
    """How many of the writes of the open parts are done ahead of a place that may serve first.

    One of an open part serves just ahead of its own write, a free one behind all of them: then what stood
    there is not needed any more. One that stays serves as soon as it has room, and is written back at once.
    """
    if place in free_places(task):
        return len(writes)
    if place in staying_places(task):
        return [many for many in range(len(writes) + 1) if has_room_behind(task, writes[:many], place)][0]
    return [written for written, value in writes].index(place)


def back_at(task, place):
    """The write that puts back what a place has to keep."""
    return [(place, task[1][place])] if place in staying_places(task) else []


def put_in(task, writes, blocks):
    """The writes of the open parts, and blocks of more, each told by the place that serves first for it.

    Of two blocks at one moment the second one may use up the room of the place of the first one.
    """
    moments = [moment_of(task, writes, place) for place, more in blocks]
    found = []
    for at in range(len(writes) + 1):
        for moment, (place, more) in zip(moments, blocks):
            if moment == at:
                found.extend(more + back_at(task, place))
        found.extend(writes[at:at + 1])
    return found


def writes_amid(task, first, place, index):
    """The writes of all closed parts where one, told by its index, is begun with a copy at first.

    Amid it the place has room, and all others are begun with a copy there: ahead of its write if it is
    wrong, otherwise as soon as its value stands once more; then it is written back.
    """
    parts = closed_parts(task)
    row = writes_of_rounds(task, first, [parts[index]])
    others = writes_of_rounds(task, place, parts[:index] + parts[index + 1:])
    if place in parts[index]:
        at = [written for written, value in row].index(place)
    else:
        at = [value for written, value in row].index(task[1][place]) + 1
    return row[:at] + others + back_at(task, place) + row[at:]


def index_of_part(task, place):
    """The index of the closed part that has the value at a place, None if there is none."""
    for index, part in enumerate(closed_parts(task)):
        if task[1][place] in values_in(task, part):
            return index
    return None


def blocks_of(task, first, way, place):
    """What is put in for the closed parts if copies aside go to a place in some way, the first one perhaps to first."""
    parts = closed_parts(task)
    if way == ALL_FIRST:
        return [(place, writes_of_rounds(task, place, parts))]
    if way == ALL_BEHIND:
        aside = [(first, task[1][place])]
        return [(first, aside + writes_of_rounds(task, place, parts) + back_at(task, place))]
    index = index_of_part(task, place)
    if index is not None:
        return [(first, writes_amid(task, first, place, index))]
    return [(first, writes_of_rounds(task, first, parts[:1])), (place, writes_of_rounds(task, place, parts[1:]))]


def plan_of(task, writes):
    """The plan of stretches of one copy each that does writes one behind the other."""
    plan, layout = [], task[1]
    for place, value in writes:
        plan.append(stretch_writing(layout, {place: value}))
        layout = led(layout, plan[-1])
    return tuple(plan)


def cheapest_plan(task, prices):
    if not has_plan(task):
        return None
    writes, blocks = writes_of_open(task), []
    if len(closed_parts(task)) > 0:
        way, place = cheapest_aside(task, prices)[1:]
        blocks = blocks_of(task, cheapest_first(task, prices)[1], way, place)
    return plan_of(task, put_in(task, writes, blocks))
