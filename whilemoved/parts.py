"""The arrows of a task, and the parts into which its wrong places fall."""

from whilemoved.errors import NotEven
from whilemoved.layouts import free_places, open_places, rooms, wrong_places


def arrows_of(task):
    old, wish = task[1], task[2]
    return [(old[place], wish[place], place) for place in wrong_places(task)]


def parts_of(task):
    # Tuples of the tails and heads, and of the places, that hang together so far. None is a tail like
    # any value here: it holds all open places together.
    joined = []
    for tail, head, place in arrows_of(task):
        ends, places, others = (tail, head), (place,), []
        for known in joined:
            if tail in known[0] or head in known[0]:
                ends = ends + known[0]
                places = places + known[1]
            else:
                others.append(known)
        joined = others + [(ends, places)]
    return sorted([tuple(sorted(known[1])) for known in joined])


def is_closed(task, part):
    needs, old = task[0], task[1]
    spare = rooms(needs, old)
    if any([old[place] is None for place in part]):
        return False
    return all([spare[value] == 0 for value in values_in(task, part)])


def closed_parts(task):
    return [part for part in parts_of(task) if is_closed(task, part)]


def open_parts(task):
    return [part for part in parts_of(task) if not is_closed(task, part)]


def values_in(task, part):
    needs, old, wish = task
    ends = [old[place] for place in part] + [wish[place] for place in part]
    return tuple([value for value in range(len(needs)) if value in ends])


def places_with_room(task):
    needs, old = task[0], task[1]
    spare = rooms(needs, old)
    return tuple([place for place, value in enumerate(old) if value is None or spare[value] > 0])


def counts_of(task):
    return (len(wrong_places(task)), len(closed_parts(task)))


def is_even(task):
    needs, old, wish = task
    if free_places(task) != open_places(task):
        return False
    return all([room == 0 for room in rooms(needs, old) + rooms(needs, wish)])


def spare_many(task):
    if not is_even(task):
        raise NotEven()
    return len(free_places(task))


def leads_on(task, value, places):
    """Whether one can come from a value, by the arrows of some places, to the tail of each of them."""
    old, wish = task[1], task[2]
    come, ahead = [], [value]
    while len(ahead) > 0:
        at = ahead.pop()
        if at not in come:
            come.append(at)
            ahead.extend([wish[place] for place in places if old[place] == at])
    return all([old[place] in come for place in places])


def others_of(places, at):
    return [place for place in places if place != at]


def next_places(task, value, left):
    """The places that are left, and with which a round that has come to a value can go on.

    Each value goes out of a closed part as often as in. So the round comes back to its beginning
    exactly if it can still come to all places that are left behind such a place.
    """
    old, wish = task[1], task[2]
    fitting = [place for place in left if old[place] == value]
    return [place for place in fitting if leads_on(task, wish[place], others_of(left, place))]


def rounds_of(task, part):
    wish = task[2]
    row, left = [part[0]], list(part[1:])
    while len(left) > 0:
        at = next_places(task, wish[row[-1]], left)[0]
        row.append(at)
        left = others_of(left, at)
    return tuple(row)
