"""What can be read of a store, and how far it has come."""

from whilemoved.store import ON, goes_on, unfinished_places


def going_on(store):
    return (store.way, store.index)


def whole_places(store):
    return store.whole


def lost_places(store):
    return store.lost


def shown(store):
    return store.told


def readers(store, value):
    return tuple([place for place, told in enumerate(store.told) if told == value])


def untold(store):
    return tuple([value for value in range(len(store.task[0])) if value not in store.told])


def left_to_write(store):
    return unfinished_places(store)


def layouts_now(store):
    """The layouts between which the store is: one alone where no stretch goes on."""
    if goes_on(store):
        return [store.layouts[store.index], store.layouts[store.index + 1]]
    return [store.layouts[-1] if store.way == ON else store.layouts[0]]


def lost_in(store, layout, value):
    return len([place for place in store.lost if layout[place] == value])


def lost_of(store, value):
    return max([lost_in(store, layout, value) for layout in layouts_now(store)])
