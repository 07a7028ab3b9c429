"""Groupings of the parts of an even task, and the open places and writes that they take."""

from whilemoved.forms import is_lot
from whilemoved.layouts import wrong_places
from whilemoved.parts import parts_of, spare_many


def weight_of(parts, group):
    """The writes that a group takes with one open place: one for each wrong place, and one for each part."""
    return sum([len(parts[index]) + 1 for index in group])


def taken_by(weight, k):
    return (weight + k - 3) // (k - 1)


def places_taken(task, group, k):
    spare_many(task)
    return taken_by(weight_of(parts_of(task), group), k)


def fits_within(task, grouping, k):
    return sum([places_taken(task, group, k) for group in grouping]) <= spare_many(task)


def grouping_writes(task, grouping, k):
    spare_many(task)
    least = len(wrong_places(task)) + len(parts_of(task))
    return least + sum([places_taken(task, group, k) - 1 for group in grouping])


def is_group(parts, thing):
    return is_lot(len(parts), thing) and len(thing) > 0


def is_grouping(task, thing):
    spare_many(task)
    parts = parts_of(task)
    if not isinstance(thing, tuple) or not all([is_group(parts, group) for group in thing]):
        return False
    indexes = sorted([index for group in thing for index in group])
    return indexes == list(range(len(parts))) and list(thing) == sorted(thing)


def groupings_with(grouping, index):
    """The groupings that come of one if a part with a greater index is put into a group, or is one alone."""
    joined = [
        grouping[:at] + (group + (index,),) + grouping[at + 1:] for at, group in enumerate(grouping)]
    return joined + [grouping + ((index,),)]


def groupings_of(task):
    """A grouping for each way in which the weights of the groups can fall out: they alone count."""
    parts, found = parts_of(task), [()]
    for index in range(len(parts)):
        by_weights = {}
        for grouping in found:
            for larger in groupings_with(grouping, index):
                weights = tuple(sorted([weight_of(parts, group) for group in larger]))
                if weights not in by_weights:
                    by_weights[weights] = larger
        found = list(by_weights.values())
    return found


def best_grouping(task, k):
    spare, parts = spare_many(task), parts_of(task)
    best, least = None, 0
    for grouping in groupings_of(task):
        taken = sum([taken_by(weight_of(parts, group), k) for group in grouping])
        # The writes are this many more than m and c together.
        more = taken - len(grouping)
        if taken <= spare and (best is None or more < least):
            best, least = grouping, more
    return best
