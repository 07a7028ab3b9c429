"""Whether a value of any kind is what a name of the document says.

Kinds are asked ahead of all else: True equals 1, and only its kind tells it from an integer.
"""


def is_integer(thing):
    return isinstance(thing, int) and not isinstance(thing, bool)


def is_below(many, thing):
    """Whether thing is an integer from 0 on that is less than many."""
    return is_integer(thing) and 0 <= thing < many


def is_needs(thing):
    return isinstance(thing, tuple) and all([is_integer(need) and need >= 1 for need in thing])


def is_layout(needs, thing):
    many = len(needs)
    return isinstance(thing, tuple) and all([item is None or is_below(many, item) for item in thing])


def is_right(needs, thing):
    return is_layout(needs, thing) and all([thing.count(value) >= need for value, need in enumerate(needs)])


def is_task(thing):
    if not isinstance(thing, tuple) or len(thing) != 3:
        return False
    needs, old, wish = thing
    return is_needs(needs) and is_right(needs, old) and is_right(needs, wish) and len(old) == len(wish)


def is_lot(many, thing):
    if not isinstance(thing, tuple) or not all([is_below(many, item) for item in thing]):
        return False
    return all([thing[at] < thing[at + 1] for at in range(len(thing) - 1)])


def is_pair(one_many, other_many, thing):
    """Whether thing is a tuple of two integers from 0 on, each less than its own bound."""
    if not isinstance(thing, tuple) or len(thing) != 2:
        return False
    return is_below(one_many, thing[0]) and is_below(other_many, thing[1])


def is_stretch(many, thing):
    if not isinstance(thing, tuple) or len(thing) == 0:
        return False
    if not all([is_pair(many, many, copy) for copy in thing]):
        return False
    # That no source is one of the places also bars a copy from a place to itself.
    places = tuple([copy[0] for copy in thing])
    return is_lot(many, places) and not any([copy[1] in places for copy in thing])


def is_plan(many, thing):
    return isinstance(thing, tuple) and all([is_stretch(many, stretch) for stretch in thing])
