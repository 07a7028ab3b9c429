"""Why a task has no safe plan of two stretches: more arrows than what may bear them bears."""

from whilemoved.charging import bearing, charges_with, fills_of
from whilemoved.forms import is_lot
from whilemoved.parts import arrows_of


def bar_of(task, fill):
    full = charges_with(task, fill)[1]
    if full is None:
        return None
    many = len(task[0])
    tails = tuple([value for value in range(many) if ("tail", value) in full])
    return (tails, tuple([value for value in range(many) if ("head", value) in full]))


def is_bar(task, fill, thing):
    many = len(task[0])
    if not isinstance(thing, tuple) or len(thing) != 2 or not is_lot(many, thing[0]) or not is_lot(many, thing[1]):
        return False
    by_tails, by_heads, pool = bearing(task, fill)
    borne = sum([by_tails[value] for value in thing[0]]) + sum([by_heads[value] for value in thing[1]]) + pool
    return len([tail for tail, head, place in arrows_of(task) if tail in thing[0] and head in thing[1]]) > borne


def bars_of(task):
    found = []
    for fill in fills_of(task):
        bar = bar_of(task, fill)
        if bar is None:
            return None
        found.append((fill, bar))
    return found
