"""Rows of copies that are safe one by one, and the fewest safe stretches into which they fall."""

from whilemoved.forms import is_pair, is_stretch
from whilemoved.judge import is_safe
from whilemoved.layouts import can_be_done, layouts_along, led


def is_done_safely(needs, layout, thing):
    """Whether thing is a stretch that can be done, and is safe, at a layout."""
    return is_stretch(len(layout), thing) and can_be_done(layout, thing) and is_safe(needs, layout, thing)


def is_row(needs, layout, thing):
    if not isinstance(thing, tuple):
        return False
    ahead = layout
    for copy in thing:
        if not is_done_safely(needs, ahead, (copy,)):
            return False
        ahead = led(ahead, (copy,))
    return True


def stretch_of(copies):
    return tuple(sorted(copies))


def layouts_within(layout, row):
    """The layouts ahead of each copy of a row, and the one behind the last."""
    return layouts_along(layout, tuple([(copy,) for copy in row]))


def is_whole_at(needs, layouts, row, begin, end):
    """Whether a run is whole, layouts being those within the row."""
    return is_done_safely(needs, layouts[begin], stretch_of(row[begin:end]))


def is_whole_run(needs, layout, row, begin, end):
    return is_whole_at(needs, layouts_within(layout, row), row, begin, end)


def longest_runs(needs, layout, row):
    """The runs into which a row falls if each, from the left, is whole and as long as can be."""
    layouts, runs, begin = layouts_within(layout, row), [], 0
    for end in range(1, len(row)):
        # All that lies within a whole run is whole: behind the first copy too many there is no longer run.
        if not is_whole_at(needs, layouts, row, begin, end + 1):
            runs.append((begin, end))
            begin = end
    if len(row) > 0:
        runs.append((begin, len(row)))
    return runs


def cut_row(needs, layout, row):
    return tuple([stretch_of(row[begin:end]) for begin, end in longest_runs(needs, layout, row)])


def row_paper(needs, layout, row):
    return tuple([(begin, end + 1) for begin, end in longest_runs(needs, layout, row)[:-1]])


def is_run(row, thing):
    return is_pair(len(row), len(row) + 1, thing) and thing[0] < thing[1]


def follow(one, other):
    """Whether a run is greater than another one, and has at most one copy in common with it."""
    return one < other and min(one[1], other[1]) - other[0] <= 1


def is_row_paper(needs, layout, row, thing):
    if not isinstance(thing, tuple) or not all([is_run(row, run) for run in thing]):
        return False
    for at, other in enumerate(thing):
        if not all([follow(one, other) for one in thing[:at]]):
            return False
    layouts = layouts_within(layout, row)
    return not any([is_whole_at(needs, layouts, row, begin, end) for begin, end in thing])
