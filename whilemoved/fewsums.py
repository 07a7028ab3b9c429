"""The fewest writes of sum plans, and plans with so many."""

from whilemoved.errors import NeedsMore
from whilemoved.fewest import fewest_plan
from whilemoved.layouts import staying_places
from whilemoved.parts import closed_parts, counts_of, places_with_room, rounds_of
from whilemoved.sumplans import as_sums
from whilemoved.writes import has_plan, needs_one_more


def check_needs(task):
    for value, need in enumerate(task[0]):
        if need > 1:
            raise NeedsMore(value)


def fewest_sum_writes(task, r):
    check_needs(task)
    if not has_plan(task):
        return None
    wrong, closed = counts_of(task)
    return wrong + (closed + r - 1) // r + (1 if needs_one_more(task) else 0)


def opened(task, place):
    """The task in which a place is open in old."""
    needs, old, wish = task
    return (needs, old[:place] + (None,) + old[place + 1:], wish)


def place_for_sums(task):
    """A place that has room, and can be given up for sums aside without a part being closed by that.

    If a part is closed by giving up a place, its only other place with the same value does not do so. One
    that stays is taken last, as it has to be put back.
    """
    staying, closed = staying_places(task), counts_of(task)[1]
    roomy = places_with_room(task)
    ordered = [place for place in roomy if place not in staying] + [place for place in roomy if place in staying]
    return [place for place in ordered if counts_of(opened(task, place))[1] == closed][0]


def sum_aside(aside, rounds):
    """The stretch that writes the sum of what stands at the first place of each round, these being ascending."""
    return ((aside, tuple([(row[0], 1) for row in rounds])),)


def stretches_of_round(prime, aside, rounds, index):
    """The stretches that write a round, all those ahead of it having been written.

    What stood at its first place is told by the sum aside, less what stood at the first places of the others.
    """
    row = rounds[index]
    found = [((place, ((row[at + 1], 1),)),) for at, place in enumerate(row[:-1])]
    others = [done[-1] for done in rounds[:index]] + [later[0] for later in rounds[index + 1:]]
    told = [(aside, 1)] + [(place, prime - 1) for place in others]
    found.append(((row[-1], tuple(sorted(told))),))
    return found


def done_rounds(task, rounds):
    """The old layout behind some rounds."""
    old, wish = task[1], task[2]
    written = [place for row in rounds for place in row]
    return tuple([wish[place] if place in written else item for place, item in enumerate(old)])


def sum_plan(prime, task, r):
    check_needs(task)
    if not has_plan(task):
        return None
    rounds = [rounds_of(task, part) for part in closed_parts(task)]
    if len(rounds) == 0:
        return as_sums(fewest_plan(task))
    aside, plan = place_for_sums(task), []
    for begin in range(0, len(rounds), r):
        group = rounds[begin:begin + r]
        plan.append(sum_aside(aside, group))
        for index in range(len(group)):
            plan.extend(stretches_of_round(prime, aside, group, index))
    left = opened((task[0], done_rounds(task, rounds), task[2]), aside)
    return tuple(plan) + as_sums(fewest_plan(left))
