"""Ranks of forms modulo a prime, forms as sums of other ones, and linear tasks."""

from whilemoved.forms import is_below, is_integer

LEAST_PRIME = 151
GREATEST_PRIME = 10007
# What is no prime below 101 * 101 = 10,201 has a divisor up to 100.
MOST_DIVISOR = 100


def inverse_of(prime, number):
    """What gives 1 if a number, which is not 0 modulo the prime, is multiplied with it."""
    greater, lesser, before, factor = prime, number, 0, 1
    while lesser > 0:
        times = greater // lesser
        greater, lesser = lesser, greater - times * lesser
        before, factor = factor, before - times * factor
    return before % prime


def is_zero(form):
    return all([item == 0 for item in form])


def times_form(prime, factor, form):
    return [factor * item % prime for item in form]


def left_of(prime, basis, row):
    """What is left of a row if each row of a basis is taken away from it as often as its own item asks."""
    for at, known in basis:
        if row[at] != 0:
            times = row[at]
            row = [(item - times * taken) % prime for item, taken in zip(row, known)]
    return row


def basis_of(prime, many, rows):
    """A list of tuples (at, row): each row has 1 at its own item, one of the first so many, and 0 at earlier ones.

    The items behind the first so many only go along, and tell how a row has come about.
    """
    basis = []
    for row in rows:
        left = left_of(prime, basis, row)
        others = [at for at in range(many) if left[at] != 0]
        if len(others) > 0:
            at = others[0]
            basis.append((at, times_form(prime, inverse_of(prime, left[at]), left)))
    return basis


def rank_of(prime, forms):
    many = len(forms[0]) if len(forms) > 0 else 0
    return len(basis_of(prime, many, forms))


def marked_basis(prime, many, forms):
    """A basis whose rows tell behind their form by which factors it comes of the forms."""
    marks = range(len(forms))
    rows = [list(form) + [1 if mark == index else 0 for mark in marks] for index, form in enumerate(forms)]
    return basis_of(prime, many, rows)


def factors_by(prime, basis, marks, form):
    """The factors by which a form comes of so many forms, basis being their marked one, None if it does not."""
    many = len(form)
    left = left_of(prime, basis, list(form) + [0] * marks)
    return tuple([-item % prime for item in left[many:]]) if is_zero(left[:many]) else None


def factors_for(prime, forms, form):
    return factors_by(prime, marked_basis(prime, len(form), forms), len(forms), form)


def outside_of(layout, lot):
    return [place for place in range(len(layout)) if place not in lot]


def tells_all(prime, many, layout, lot):
    return rank_of(prime, [layout[place] for place in lot]) == many


def form_of(prime, many, layout, some):
    """The form of a sum of places."""
    return tuple([sum([factor * layout[source][at] for source, factor in some]) % prime for at in range(many)])


def led_forms(prime, layout, stretch):
    after = list(layout)
    for place, some in stretch:
        after[place] = form_of(prime, len(layout[place]), layout, some)
    return tuple(after)


def is_prime(thing):
    if not is_integer(thing) or thing < LEAST_PRIME or thing > GREATEST_PRIME:
        return False
    return all([thing % divisor != 0 for divisor in range(2, MOST_DIVISOR + 1)])


def is_form(prime, many, thing):
    return isinstance(thing, tuple) and len(thing) == many and all([is_below(prime, item) for item in thing])


def is_wanted(prime, many, thing):
    """Whether thing may stand in a linear wish."""
    return thing is None or (is_form(prime, many, thing) and not is_zero(thing))


def is_linear_task(thing):
    if not isinstance(thing, tuple) or len(thing) != 4:
        return False
    prime, many, old, wish = thing
    if not is_prime(prime) or not is_integer(many) or not isinstance(old, tuple) or not isinstance(wish, tuple):
        return False
    if len(old) != len(wish) or not all([is_form(prime, many, form) for form in old]):
        return False
    if not all([is_wanted(prime, many, form) for form in wish]):
        return False
    return rank_of(prime, old) == many and rank_of(prime, [form for form in wish if form is not None]) == many


def wrong_forms(task):
    old, wish = task[2], task[3]
    return tuple([place for place, form in enumerate(wish) if form is not None and form != old[place]])
