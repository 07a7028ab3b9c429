"""The fewest stretches of an even task, and the fewest writes within so many."""

from whilemoved.groups import best_grouping, grouping_writes
from whilemoved.layouts import wrong_places
from whilemoved.parts import parts_of, spare_many


def writes_within(task, k):
    spare_many(task)
    if len(wrong_places(task)) == 0:
        return 0
    if k < 2:
        return None
    grouping = best_grouping(task, k)
    return None if grouping is None else grouping_writes(task, grouping, k)


def most_stretches(task):
    """As many as the fewest writes: with more stretches there is nothing that there is not with these."""
    return len(wrong_places(task)) + len(parts_of(task))


def fewest_stretches(task):
    spare_many(task)
    for k in range(most_stretches(task) + 1):
        if writes_within(task, k) is not None:
            return k
    return None


def front(task):
    spare_many(task)
    found = []
    for k in range(most_stretches(task) + 1):
        writes = writes_within(task, k)
        if writes is not None and (len(found) == 0 or writes < found[-1][1]):
            found.append((k, writes))
    return found
