"""What several tests share: values of all kinds, exchanged parts of nested tuples, small tasks, deeds and errors."""

import functools
import itertools
import random

from whilemoved import errors
from whilemoved.changes import beside, renamed
from whilemoved.forms import is_stretch
from whilemoved.judge import is_safe
from whilemoved.layouts import can_be_done, led


def nested(deep):
    """A list within a list and so on, so many deep."""
    thing = []
    for _ in range(deep):
        thing = [thing]
    return thing


def all_kinds():
    """Values of all kinds, alone and nested. Few of them are right for anything."""
    deep_tuple = ()
    for _ in range(20):
        deep_tuple = (deep_tuple,)
    return [
        None, True, False, -1, 10 ** 39, -(10 ** 39), "?", "0", "needs", [], [0], [None], {}, {0: 1}, {None: (1,)},
        nested(20), deep_tuple, ("",), (True,), (False,), ([],), ({},), (None, True), ((0, True),), ((False, 1),),
        (((0, 1), [2, 3]),), [(0, 1)], [((0, 1),)], ("a", "b"), errors.Nothing(), errors.Wrong([1]),
        (errors.NotEven(),), "x" * 3000, [0] * 3000, ("",) * 3000,
    ]


def with_part(thing, at, part):
    return thing[:at] + (part,) + thing[at + 1:]


def truths_for_integers(thing):
    """All that come of a nested tuple if one 0 or 1 in it becomes False or True."""
    if isinstance(thing, int) and not isinstance(thing, bool) and thing in (0, 1):
        return [bool(thing)]
    if not isinstance(thing, tuple):
        return []
    return [with_part(thing, at, other) for at, part in enumerate(thing) for other in truths_for_integers(part)]


def lists_for_tuples(thing):
    """All that come of a nested tuple if one tuple in it, or it itself, becomes a list."""
    if not isinstance(thing, tuple):
        return []
    inner = [with_part(thing, at, other) for at, part in enumerate(thing) for other in lists_for_tuples(part)]
    return [list(thing)] + inner


def strings_for_integers(thing):
    """All that come of a nested tuple if one integer in it becomes the string that shows it."""
    if isinstance(thing, int):
        return [str(thing)]
    if not isinstance(thing, tuple):
        return []
    return [with_part(thing, at, other) for at, part in enumerate(thing) for other in strings_for_integers(part)]


def of_other_kinds(thing):
    return truths_for_integers(thing) + lists_for_tuples(thing) + strings_for_integers(thing)


def small_tasks(most):
    """All tasks with some needs, and so many places at the most."""
    found = []
    for needs in ((), (1,), (2,), (1, 1), (2, 1), (1, 1, 1)):
        for many in range(most + 1):
            rows = list(itertools.product((None,) + tuple(range(len(needs))), repeat=many))
            rows = [row for row in rows if all(row.count(value) >= need for value, need in enumerate(needs))]
            found.extend([(needs, old, wish) for old in rows for wish in rows])
    return found


TASKS = small_tasks(4)


def by_start():
    """The tasks of TASKS as a dict from (needs, old) to the wishes."""
    found = {}
    for needs, old, wish in TASKS:
        found.setdefault((needs, old), []).append(wish)
    return found


def even_tasks(needs, spare):
    """All even tasks whose old has the values one behind the other, and then so many open places."""
    old = tuple(value for value, need in enumerate(needs) for _ in range(need))
    wishes = sorted(set(itertools.permutations(old)))
    return [(needs, old + (None,) * spare, wish + (None,) * spare) for wish in wishes]


UNEVEN = [
    ((1, 1), (0, 1, 1), (1, 0, None)), ((1,), (0, None), (0, 0)), ((1,), (0, None), (None, 0)),
    ((2,), (0, 0, 0), (0, 0, 0)),
]


def stretches(many):
    """All stretches of at most two copies, of so many places."""
    pairs = list(itertools.product(range(many), repeat=2))
    found = [(pair,) for pair in pairs] + list(itertools.combinations(pairs, 2))
    return [stretch for stretch in found if is_stretch(many, stretch)]


@functools.lru_cache(None)
def all_stretches(many):
    """All stretches of so many places."""
    found = []
    for size in range(1, many):
        for places in itertools.combinations(range(many), size):
            rest = [place for place in range(many) if place not in places]
            found.extend([tuple(zip(places, row)) for row in itertools.product(rest, repeat=size)])
    return found


@functools.lru_cache(None)
def safe_stretches(needs, layout):
    """All stretches that can be done, and are safe, at a layout."""
    found = [stretch for stretch in all_stretches(len(layout)) if can_be_done(layout, stretch)]
    return [stretch for stretch in found if is_safe(needs, layout, stretch)]


def safe_plans(task, most):
    """All safe plans of so many stretches at the most, also those that write more than is needed."""
    needs, old, wish = task
    found = [()] if all(item in (None, there) for item, there in zip(wish, old)) else []
    if most > 0:
        for stretch in safe_stretches(needs, old):
            found.extend([(stretch,) + plan for plan in safe_plans((needs, led(old, stretch), wish), most - 1)])
    return found


@functools.lru_cache(None)
def safe_steps(needs, layout):
    """The dict from each layout to which a safe stretch leads to the fewest copies of such a stretch."""
    found = {}
    for stretch in safe_stretches(needs, layout):
        after = led(layout, stretch)
        found[after] = min(len(stretch), found.get(after, len(stretch)))
    return found


@functools.lru_cache(None)
def searched(needs, old):
    """For each k the dict from each layout to which safe stretches lead, at most k, to the fewest copies of them.

    All safe plans are gone through. The last dict holds for each greater k, too.
    """
    found, ahead = [{old: 0}], {}
    while ahead != found[-1]:
        ahead = found[-1]
        best = dict(ahead)
        for layout, writes in ahead.items():
            for after, more in safe_steps(needs, layout).items():
                best[after] = min(writes + more, best.get(after, writes + more))
        found.append(best)
    return found


def fewest_searched(task, k):
    """The fewest writes of all safe plans of a task with at most k stretches, None if there is none."""
    needs, old, wish = task
    found = searched(needs, old)
    fitting = [
        writes for layout, writes in found[min(k, len(found) - 1)].items()
        if all(item in (None, there) for item, there in zip(wish, layout))]
    return min(fitting, default=None)


MANY = 99


# Closed parts, open ones, values that stay with and without room, free and open places, of needs of 1 first.
PIECES = [
    ((1, 1), (0, 1), (1, 0)), ((1, 1), (0, 1), (1, 0)), ((1, 1, 1), (0, 1, 2), (1, 2, 0)), ((1,), (0, 0), (0, 0)),
    ((1,), (0,), (0,)), ((1,), (0, None), (0, 0)), ((1,), (0, None), (None, 0)), ((1,), (0, 0), (0, None)),
    ((1, 1), (0, 0, 1), (1, 0, 1)), ((1, 1), (0, 1, 0), (1, 0, 0)), ((1, 1), (0, 1, 0), (1, 0, 1)),
    ((1, 1, 1), (0, 0, 1, 2), (2, 1, 0, 2)), ((), (None,), (None,)),
]
WIDE_PIECES = PIECES + [
    ((2, 1), (0, 0, 1), (0, 1, 0)), ((2, 2), (0, 0, 1, 1), (0, 1, 1, 0)), ((2, 1), (0, 0, 1, None), (0, None, 1, 0)),
    ((2, 1, 1), (0, 0, 1, 2, 0), (0, 1, 0, 2, 0)), ((2, 1, 1), (0, 0, 1, 2), (1, 2, 0, 0)),
    ((3, 1), (0, 1, 0, 0), (1, 0, 0, 0)), ((2,), (0, 0, 0), (0, 0, 0)), ((2, 2), (0, 0, 1, 1), (1, 1, 0, 0)),
]


def composed(seed, many, pieces, places, values):
    """So many tasks made of pieces, of at most so many places and values, always the same for a seed."""
    chance, found = random.Random(seed), []
    while len(found) < many:
        task = ((), (), ())
        for _ in range(chance.randint(1, 6)):
            task = beside(task, chance.choice(pieces))
        if len(task[0]) <= values and len(task[1]) <= places:
            rows = [list(range(len(task[0]))), list(range(len(task[1])))]
            for row in rows:
                chance.shuffle(row)
            found.append(renamed(task, tuple(rows[0]), tuple(rows[1])))
    return found


def single_writes(needs, layout):
    """The layouts to which a copy alone, that is safe, leads, each with the place that is written."""
    found = []
    for place, item in enumerate(layout):
        if item is None or layout.count(item) > needs[item]:
            for value in range(len(needs)):
                if value != item:
                    found.append((place, with_part(layout, place, value)))
    return found


def fitting(wish, layout):
    return all(item in (None, there) for item, there in zip(wish, layout))


def done(store, *deeds):
    """The store behind some deeds, each told by its name and what it is given."""
    for name, *given in deeds:
        getattr(store, name)(*given)
    return store


def raised(call, *given):
    """The error of this package that a call raises, None if it raises none."""
    try:
        call(*given)
    except errors.MoveError as error:
        return error
    return None


def told_by(error):
    """The class of an error and its fields."""
    return type(error), vars(error)
