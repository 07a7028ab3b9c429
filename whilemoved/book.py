"""A task that changes, and promises that are kept meanwhile."""

from whilemoved.charging import can_twice
from whilemoved.errors import Broken, CannotDo, NoIndex, NoPromise, NotRight, NotSafe, Nothing, TooMany, Wrong
from whilemoved.fewsums import fewest_sum_writes
from whilemoved.forms import is_below, is_integer, is_stretch, is_task
from whilemoved.judge import is_safe
from whilemoved.layouts import can_be_done, led, rooms
from whilemoved.once import can_once
from whilemoved.writes import fewest_writes

MOST_PLACES = 16


def is_from(least, thing):
    return is_integer(thing) and thing >= least


def is_promise(thing):
    if not isinstance(thing, tuple) or len(thing) not in (2, 3):
        return False
    if thing[0] == "sums":
        return len(thing) == 3 and is_from(1, thing[1]) and is_from(0, thing[2])
    if thing[0] == "stretches":
        return len(thing) == 2 and is_integer(thing[1]) and thing[1] in (1, 2)
    return thing[0] == "writes" and len(thing) == 2 and is_from(0, thing[1])


def is_at_most(writes, most):
    return writes is not None and writes <= most


def is_kept(task, promise):
    if promise[0] == "writes":
        return is_at_most(fewest_writes(task), promise[1])
    if promise[0] == "stretches":
        return can_once(task) if promise[1] == 1 else can_twice(task)
    if any([need > 1 for need in task[0]]):
        return False
    return is_at_most(fewest_sum_writes(task, promise[1]), promise[2])


def check_kept(task, promises):
    for promise in promises:
        if not is_kept(task, promise):
            raise Broken(promise)


def check_right(task):
    needs, old, wish = task
    before, wanted = rooms(needs, old), rooms(needs, wish)
    for value in range(len(needs)):
        if before[value] < 0 or wanted[value] < 0:
            raise NotRight(value)


def with_exchanged(row, at, item):
    return row[:at] + (item,) + row[at + 1:]


class Book:
    """A task and promises that it keeps.

    Both are of plain tuples, so what undo needs is the row of the earlier ones.
    """

    def __init__(self, task):
        if not is_task(task):
            raise Wrong(0)
        self.now = task
        self.kept = ()
        self.past = []

    def __eq__(self, other):
        return isinstance(other, Book) and self.now == other.now and self.kept == other.kept

    def become(self, now, kept):
        """Goes over to a task and promises, and keeps for undo what was."""
        self.past.append((self.now, self.kept))
        self.now = now
        self.kept = kept

    def add_place(self):
        needs, old, wish = self.now
        if len(old) >= MOST_PLACES:
            raise TooMany(MOST_PLACES)
        # No promise can be broken by a place more, so none is asked.
        self.become((needs, old + (None,), wish + (None,)), self.kept)

    def set_wish(self, place, item):
        needs, old, wish = self.now
        if not is_below(len(old), place):
            raise Wrong(0)
        if item is not None and not is_below(len(needs), item):
            raise Wrong(1)
        changed = (needs, old, with_exchanged(wish, place, item))
        check_right(changed)
        check_kept(changed, self.kept)
        self.become(changed, self.kept)

    def set_need(self, value, need):
        needs, old, wish = self.now
        if not is_below(len(needs), value):
            raise Wrong(0)
        if not is_from(1, need):
            raise Wrong(1)
        changed = (with_exchanged(needs, value, need), old, wish)
        check_right(changed)
        check_kept(changed, self.kept)
        self.become(changed, self.kept)

    def go_on(self, stretch):
        needs, old, wish = self.now
        if not is_stretch(len(old), stretch):
            raise Wrong(0)
        if not can_be_done(old, stretch):
            raise CannotDo(0)
        if not is_safe(needs, old, stretch):
            raise NotSafe(0)
        changed = (needs, led(old, stretch), wish)
        check_kept(changed, self.kept)
        self.become(changed, self.kept)

    def promise(self, thing):
        if not is_promise(thing):
            raise NoPromise(thing)
        promises = self.kept + (thing,)
        check_kept(self.now, promises)
        self.become(self.now, promises)

    def free(self, index):
        if not is_below(len(self.kept), index):
            raise NoIndex(index)
        found = self.kept[index]
        self.become(self.now, self.kept[:index] + self.kept[index + 1:])
        return found

    def task(self):
        return self.now

    def promises(self):
        return list(self.kept)

    def undo(self):
        if len(self.past) == 0:
            raise Nothing()
        self.now, self.kept = self.past.pop()

    def twin(self):
        other = Book(self.now)
        other.kept = self.kept
        other.past = list(self.past)
        return other
