"""Sums of values in the place of copies: sum plans, and how values are read of sums."""

from itertools import combinations

from whilemoved.forms import is_below, is_integer, is_lot
from whilemoved.ranks import factors_by, factors_for, form_of, inverse_of, is_zero, led_forms, marked_basis
from whilemoved.ranks import outside_of, rank_of, times_form


def own_form(many, value):
    return tuple([1 if at == value else 0 for at in range(many)])


def forms_of(many, layout):
    # No value is None, so the form of None is 0 all over.
    return tuple([own_form(many, value) for value in layout])


def sum_form(prime, many, layout, some):
    return form_of(prime, many, layout, some)


def led_by_sums(prime, many, layout, plan):
    for stretch in plan:
        layout = led_forms(prime, layout, stretch)
    return layout


def is_two(thing):
    return isinstance(thing, tuple) and len(thing) == 2


def is_factor(prime, thing):
    return is_below(prime, thing) and thing > 0


def is_sum(prime, places, thing):
    if not isinstance(thing, tuple) or len(thing) == 0 or not all([is_two(term) for term in thing]):
        return False
    if not all([is_factor(prime, factor) for source, factor in thing]):
        return False
    return is_lot(places, tuple([source for source, factor in thing]))


def written_by(stretch):
    """The places of a sum stretch."""
    return tuple([place for place, some in stretch])


def is_sum_stretch(prime, places, thing):
    if not isinstance(thing, tuple) or len(thing) == 0 or not all([is_two(item) for item in thing]):
        return False
    if not all([is_sum(prime, places, some) for place, some in thing]):
        return False
    lot = written_by(thing)
    return is_lot(places, lot) and not any([source in lot for place, some in thing for source, factor in some])


def is_sums(prime, places, thing):
    return isinstance(thing, tuple) and all([is_sum_stretch(prime, places, stretch) for stretch in thing])


def unlike_places(prime, layout, lot):
    """The places outside a lot that tell something, the first one alone of those that tell multiples of one form."""
    found, known = [], []
    for place in outside_of(layout, lot):
        form = layout[place]
        if not is_zero(form):
            first = [item for item in form if item != 0][0]
            multiple = times_form(prime, inverse_of(prime, first), form)
            if multiple not in known:
                known.append(multiple)
                found.append(place)
    return found


def shortest_sums(prime, many, layout, places, values, size):
    """The dict from those of some values that so many of some places tell to sums of as few of these as can be."""
    found = {}
    for some in combinations(places, size):
        basis = marked_basis(prime, many, [layout[place] for place in some])
        for value in values:
            factors = factors_by(prime, basis, size, own_form(many, value))
            if factors is not None:
                told = tuple([(place, factor) for place, factor in zip(some, factors) if factor != 0])
                if value not in found or len(told) < len(found[value]):
                    found[value] = told
    return found


def reading(prime, many, layout, lot, r):
    places = unlike_places(prime, layout, lot)
    forms = [layout[place] for place in places]
    alone = shortest_sums(prime, many, layout, places, list(range(many)), 1)
    left = [value for value in range(many) if value not in alone]
    if any([factors_for(prime, forms, own_form(many, value)) is None for value in left]):
        return None
    # The forms of a shortest sum can be filled up to so many none of which is a sum of others: there is no other
    # sum of these for the value then.
    size = min(r, rank_of(prime, forms))
    others = shortest_sums(prime, many, layout, places, left, size) if len(left) > 0 else {}
    if len(others) < len(left):
        return None
    return {value: alone[value] if value in alone else others[value] for value in range(many)}


def is_told(prime, many, layout, lot, r, value, thing):
    """Whether thing is a sum of at most r places outside a lot whose form is a value's own one."""
    if not is_sum(prime, len(layout), thing) or len(thing) > r or any([source in lot for source, factor in thing]):
        return False
    return form_of(prime, many, layout, thing) == own_form(many, value)


def is_reading(prime, many, layout, lot, r, thing):
    if not isinstance(thing, dict) or not all([is_integer(value) for value in thing]):
        return False
    if sorted(thing) != list(range(many)):
        return False
    return all([is_told(prime, many, layout, lot, r, value, thing[value]) for value in thing])


def forms_along(prime, layout, plan):
    """The list of the linear layouts ahead of each stretch of a sum plan, and of the one behind the last."""
    layouts = [layout]
    for stretch in plan:
        layouts.append(led_forms(prime, layouts[-1], stretch))
    return layouts


def is_sum_plan(prime, task, r, thing):
    needs, old, wish = task
    many = len(needs)
    if not is_sums(prime, len(old), thing):
        return False
    layouts = forms_along(prime, forms_of(many, old), thing)
    if not all([item is None or layouts[-1][place] == own_form(many, item) for place, item in enumerate(wish)]):
        return False
    return all([
        reading(prime, many, layouts[index], written_by(stretch), r) is not None
        for index, stretch in enumerate(thing)])


def as_sums(plan):
    return tuple([tuple([(place, ((source, 1),)) for place, source in stretch]) for stretch in plan])
