"""The fewest stretches, as far as they are told, and plans with few stretches."""

from whilemoved.charging import can_twice, twice_plan
from whilemoved.fewest import fewest_plan
from whilemoved.fronts import fewest_stretches
from whilemoved.groupplans import plan_within
from whilemoved.layouts import wrong_places
from whilemoved.once import can_once, once_plan
from whilemoved.parts import is_even
from whilemoved.rows import cut_row


def least_stretches(task):
    if is_even(task):
        return fewest_stretches(task)
    # A task that has no safe plan has no room at all, neither in old nor in wish: it is even.
    if len(wrong_places(task)) == 0:
        return 0
    if can_once(task):
        return 1
    return 2 if can_twice(task) else 3


def fewest_plan_cut(task):
    """A plan with the fewest writes, its copies cut, as they come, into as few stretches as can be."""
    row = tuple([copy for stretch in fewest_plan(task) for copy in stretch])
    return cut_row(task[0], task[1], row)


def short_plan(task):
    least = least_stretches(task)
    if least is None:
        return None
    if is_even(task):
        return plan_within(task, least)
    if can_once(task):
        return once_plan(task)
    return twice_plan(task) if least == 2 else fewest_plan_cut(task)


def is_met(task):
    plan = short_plan(task)
    return plan is None or len(plan) == least_stretches(task)
