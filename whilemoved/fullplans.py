"""Fewest writes and stretches of linear tasks that have as many forms as values, and no more."""

from whilemoved.errors import NotFull
from whilemoved.ranks import factors_for, is_zero, led_forms, outside_of, rank_of, tells_all, wrong_forms
from whilemoved.sumplans import forms_along, is_sums, own_form, written_by
from whilemoved.twolots import sums_writing


def is_linear_plan(task, most, thing):
    prime, many, old, wish = task
    if not is_sums(prime, len(old), thing) or len(thing) > most:
        return False
    layouts = forms_along(prime, old, thing)
    if not all([form is None or form == layouts[-1][place] for place, form in enumerate(wish)]):
        return False
    return all([
        tells_all(prime, many, layouts[index], outside_of(old, written_by(stretch)))
        for index, stretch in enumerate(thing)])


def places_spare(task):
    """The free places of a full task."""
    many, old, wish = task[1], task[2], task[3]
    free = [place for place, form in enumerate(wish) if form is None]
    if free != [place for place, form in enumerate(old) if is_zero(form)] or len(old) - len(free) != many:
        raise NotFull()
    return free


def fewest_linear(task, most):
    spare, wrong = len(places_spare(task)), len(wrong_forms(task))
    if wrong == 0:
        return 0
    if most < 2:
        return None
    # Each form aside lets one place be written in each later stretch.
    aside = (wrong + most - 2) // (most - 1)
    return wrong + aside if aside <= spare else None


def forms_amid(task, done, amid):
    """The forms at the places that are not free while some of them are written, others having been written."""
    old, wish = task[2], task[3]
    places = [place for place, form in enumerate(wish) if form is not None and place not in amid]
    return [wish[place] if place in done else old[place] for place in places]


def next_written(task, done, left):
    """The first place that is left without which the rank of the other forms is one less than the values.

    There is one: so it was without the place written last. If its new form adds to that rank, each place
    that is left will do. If not, it is a sum of the others; not of new forms alone, as they tell all in the
    end, so an old form is in that sum, and can be given up for the new one.
    """
    prime, many = task[0], task[1]
    return [place for place in left if rank_of(prime, forms_amid(task, done, [place])) == many - 1][0]


def order_of(task):
    """All wrong places in an order in which they can be written one by one, or several in a row at once."""
    done, left = [], list(wrong_forms(task))
    while len(left) > 0:
        place = next_written(task, done, left)
        done.append(place)
        left = [other for other in left if other != place]
    return done


def more_times(prime, form, times, other):
    """A form and so many times another one."""
    return tuple([(item + times * more) % prime for item, more in zip(form, other)])


def is_outside(prime, spans, form):
    """Whether a form is a sum of products in none of some lists of forms."""
    return all([factors_for(prime, span, form) is None for span in spans])


def form_outside(prime, many, spans):
    """A form that is a sum of products in none of some lists of forms, none of which tells all.

    By a form that the next list does not have it is led out of this one. Each list ahead of it bars one
    number of times at the most, so there are fewer barred ones than a prime has.
    """
    found = (0,) * many
    for at, span in enumerate(spans):
        if not is_outside(prime, [span], found):
            owns = [own_form(many, value) for value in range(many)]
            own, times = [form for form in owns if is_outside(prime, [span], form)][0], 1
            while not is_outside(prime, spans[:at + 1], more_times(prime, found, times, own)):
                times += 1
            found = more_times(prime, found, times, own)
    return found


def forms_aside(prime, many, spans, count):
    """So many forms that, with each of some lists of forms, tell all."""
    found = []
    for _ in range(count):
        left = [span + found for span in spans if rank_of(prime, span + found) < many]
        found.append(form_outside(prime, many, left))
    return found


def linear_plan(task, most):
    prime, many, layout, wish = task
    free, writes = places_spare(task), fewest_linear(task, most)
    if writes is None or writes == 0:
        return None if writes is None else ()
    order = order_of(task)
    count = writes - len(order)
    groups = [order[begin:begin + count] for begin in range(0, len(order), count)]
    spans = [forms_amid(task, order[:at * count], group) for at, group in enumerate(groups)]
    aside = forms_aside(prime, many, spans, count)
    wanted = [{free[at]: form for at, form in enumerate(aside)}]
    wanted.extend([{place: wish[place] for place in group} for group in groups])
    plan = []
    for forms in wanted:
        plan.append(sums_writing(prime, layout, forms))
        layout = led_forms(prime, layout, plan[-1])
    return tuple(plan)


def linear_front(task):
    found = []
    # Behind as many stretches as wrong places and one more nothing is won any more.
    for most in range(len(wrong_forms(task)) + 2):
        writes = fewest_linear(task, most)
        if writes is not None and (len(found) == 0 or writes < found[-1][1]):
            found.append((most, writes))
    return found
