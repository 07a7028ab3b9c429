"""A store that is led through a plan while power fails, writes are left by halves and places are lost."""

from whilemoved.errors import NoPlace, NoSource, NotDone, Nothing, Wrong
from whilemoved.forms import is_below, is_integer, is_plan, is_task
from whilemoved.layouts import does, layouts_along, places_of

ON = "on"
BACK = "back"
UNTOLD = "?"


def goes_on(store):
    """Whether a stretch goes on."""
    return 0 <= store.index < len(store.plan)


def written_places(store):
    """The places of the stretch that goes on, () if none does."""
    if not goes_on(store):
        return ()
    return places_of(store.plan[store.index])


def unfinished_places(store):
    """Those of the written places that are neither whole nor lost."""
    finished = store.whole + store.lost
    return tuple([place for place in written_places(store) if place not in finished])


def is_writable(store, thing):
    # A truth is no place, so its kind is asked ahead of all that compares it.
    return is_integer(thing) and thing in written_places(store) and thing not in store.lost


def wanted_at(store, place):
    ahead, behind = store.layouts[store.index], store.layouts[store.index + 1]
    return behind[place] if store.way == ON else ahead[place]


def has_source(store, value):
    """Whether a place that is not written tells a value."""
    places = written_places(store)
    return any([told == value and place not in places for place, told in enumerate(store.told)])


def with_item(row, changed, item):
    """A row with this item at the places that change."""
    return tuple([item if place in changed else other for place, other in enumerate(row)])


def without_item(row, item):
    return tuple([other for other in row if other != item])


def with_member(lot, item):
    return tuple(sorted(without_item(lot, item) + (item,)))


class Store:
    """What places tell, and how far a plan is done.

    The state is of plain tuples and words, so what undo needs is the row of the earlier states.
    """

    def __init__(self, task, plan):
        if not is_task(task):
            raise Wrong(0)
        if not is_plan(len(task[1]), plan) or not does(task, plan):
            raise Wrong(1)
        self.task = task
        self.plan = plan
        self.layouts = layouts_along(task[1], plan)
        self.way = ON
        self.index = 0
        self.told = task[1]
        self.whole = ()
        self.lost = ()
        self.past = []

    def __eq__(self, other):
        return (
            isinstance(other, Store)
            and self.task == other.task
            and self.plan == other.plan
            and self.way == other.way
            and self.index == other.index
            and self.told == other.told
            and self.whole == other.whole
            and self.lost == other.lost
        )

    def keep(self):
        """Keeps the state for undo, ahead of what changes it."""
        self.past.append((self.way, self.index, self.told, self.whole, self.lost))

    def write(self, place):
        if not is_writable(self, place):
            raise NoPlace(place)
        wanted = wanted_at(self, place)
        if wanted is not None and not has_source(self, wanted):
            raise NoSource(place)
        self.keep()
        self.told = with_item(self.told, (place,), wanted)
        self.whole = with_member(self.whole, place)

    def spoil(self, place):
        if not is_writable(self, place):
            raise NoPlace(place)
        self.keep()
        self.told = with_item(self.told, (place,), UNTOLD)
        self.whole = without_item(self.whole, place)

    def cut(self):
        if goes_on(self):
            self.keep()
            self.told = with_item(self.told, written_places(self), UNTOLD)
            self.whole = ()

    def lose(self, place):
        if not is_below(len(self.told), place) or place in self.lost:
            raise NoPlace(place)
        self.keep()
        self.told = with_item(self.told, (place,), UNTOLD)
        self.whole = without_item(self.whole, place)
        self.lost = with_member(self.lost, place)

    def mark(self):
        if not goes_on(self):
            raise Nothing()
        left = unfinished_places(self)
        if len(left) > 0:
            raise NotDone(left[0])
        self.keep()
        if self.way == ON:
            self.index += 1
        else:
            self.index -= 1
        self.whole = ()

    def turn(self):
        self.keep()
        # Where none goes on, the stretch that was ended last goes on again, the other way.
        if self.way == ON:
            self.way = BACK
            if self.index == len(self.plan):
                self.index -= 1
        else:
            self.way = ON
            if self.index == -1:
                self.index = 0
        self.whole = ()

    def undo(self):
        if len(self.past) == 0:
            raise Nothing()
        self.way, self.index, self.told, self.whole, self.lost = self.past.pop()

    def twin(self):
        other = Store(self.task, self.plan)
        other.way = self.way
        other.index = self.index
        other.told = self.told
        other.whole = self.whole
        other.lost = self.lost
        other.past = list(self.past)
        return other
