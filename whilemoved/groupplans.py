"""Plans of even tasks by groups of parts, and how the spare standings go in any safe plan of them."""

from whilemoved.forms import is_pair
from whilemoved.fronts import writes_within
from whilemoved.groups import best_grouping
from whilemoved.layouts import free_places, layouts_along, led, stretch_writing, values_written, wrong_places
from whilemoved.parts import parts_of, rounds_of, spare_many


def rows_of_arcs(rounds, k):
    """The rows into which the rounds of a group, one behind the other, are cut: lists of arcs of the rounds.

    Each arc costs a write aside, and one of each of its places; a row has at most k writes.
    """
    rows, left = [[]], k
    for places in rounds:
        begin = 0
        while begin < len(places):
            if left < 2:
                rows.append([])
                left = k
            arc = places[begin:begin + left - 1]
            rows[-1].append(arc)
            left = left - 1 - len(arc)
            begin = begin + len(arc)
    return rows


def turned_rows(rows, rounds):
    """The same rows, some of them turned, so that all rows that share a round do it first, or all last.

    A row that goes on to another part writes over the copy aside with which a row that it shares a round
    with began it. So these copies have to be there from the first stretch on.
    """
    begins = [places[0] for places in rounds]
    found, back = [], True
    for row in rows:
        found.append(row[::-1] if back else row)
        # Only here the next row shares another round than this one did with the row ahead of it.
        if row[-1][0] in begins:
            back = not back
    return found


def steps_of(task, row):
    """The writes of a row as tuples (place, value). The place is None where a copy goes aside."""
    old, wish = task[1], task[2]
    steps = []
    for arc in row:
        steps.append((None, old[arc[0]]))
        steps.extend([(place, wish[place]) for place in arc])
    return steps


def place_aside(task, layout, wanted, steps, index):
    """A free place that can be written: an open one at first, later one with the value written last."""
    spare = steps[index - 1][1] if index > 0 else None
    return [place for place in free_places(task) if layout[place] == spare and place not in wanted][0]


def stretch_at(task, layout, rows, index):
    """The stretch of the writes with this index in all rows that have one."""
    wanted = {}
    for steps in rows:
        if index < len(steps):
            place, value = steps[index]
            if place is None:
                place = place_aside(task, layout, wanted, steps, index)
            wanted[place] = value
    return stretch_writing(layout, wanted)


def rows_of_steps(task, k):
    parts, found = parts_of(task), []
    for group in best_grouping(task, k):
        rounds = [rounds_of(task, parts[index]) for index in group]
        found.extend([steps_of(task, row) for row in turned_rows(rows_of_arcs(rounds, k), rounds)])
    return found


def plan_within(task, k):
    if writes_within(task, k) is None:
        return None
    if len(wrong_places(task)) == 0:
        return ()
    rows, plan, layout = rows_of_steps(task, k), [], task[1]
    for index in range(max([len(steps) for steps in rows])):
        stretch = stretch_at(task, layout, rows, index)
        plan.append(stretch)
        layout = led(layout, stretch)
    return tuple(plan)


def token_rows(task, plan):
    spare = spare_many(task)
    layouts, written = layouts_along(task[1], plan), values_written(task[1], plan)
    rows, held = [[] for _ in range(spare)], [None] * spare
    for index, stretch in enumerate(plan):
        gone = []
        for place, source in stretch:
            fitting = [at for at in range(spare) if held[at] == layouts[index][place] and at not in gone]
            # As the stretch is safe, it writes no more places of a value than there are spare standings of it.
            at = fitting[0]
            gone.append(at)
            rows[at].append((index, place))
            held[at] = written[(index, place)]
    return tuple([tuple(row) for row in rows])


def is_row_of_writes(task, plan, thing):
    return isinstance(thing, tuple) and all([is_pair(len(plan), len(task[1]), write) for write in thing])


def takes_over(layouts, written, row, at):
    """Whether a write, by its index in a row, comes behind the one ahead of it, at a place with what that one wrote."""
    index, place = row[at]
    if at == 0:
        return layouts[index][place] is None
    return row[at - 1][0] < index and layouts[index][place] == written[row[at - 1]]


def is_token_rows(task, plan, thing):
    spare = spare_many(task)
    if not isinstance(thing, tuple) or len(thing) != spare:
        return False
    if not all([is_row_of_writes(task, plan, row) for row in thing]):
        return False
    layouts, written = layouts_along(task[1], plan), values_written(task[1], plan)
    if sorted([write for row in thing for write in row]) != list(written):
        return False
    return all([takes_over(layouts, written, row, at) for row in thing for at in range(len(row))])
