"""Promise [19], and what [5] says of a safe plan that is walked through."""

import unittest

from tests.helpers import done, raised
from whilemoved.judge import is_safe_plan
from whilemoved.store import Store
from whilemoved.views import (
    going_on, left_to_write, lost_of, lost_places, readers, shown, untold, whole_places,
)

TASK = ((1, 1), (0, 1, None), (1, 0, None))
PLAN = (((2, 0),), ((0, 1),), ((1, 2),))
PAIR = ((2, 1), (0, 1, 0, None, None), (None, 0, 0, 1, None))
PAIR_PLAN = (((3, 1), (4, 0)), ((0, 2), (1, 4)))


class Views(unittest.TestCase):
    def test_at_first(self):
        store = Store(PAIR, PAIR_PLAN)
        self.assertEqual([going_on(store), whole_places(store), lost_places(store)], [("on", 0), (), ()])
        self.assertEqual([shown(store), left_to_write(store), untold(store)], [(0, 1, 0, None, None), (3, 4), ()])
        self.assertEqual([readers(store, 0), readers(store, 1)], [(0, 2), (1,)])
        self.assertEqual([lost_of(store, 0), lost_of(store, 1)], [0, 0])

    def test_no_values_and_no_places(self):
        store = Store(((), (), ()), ())
        self.assertEqual([shown(store), untold(store), left_to_write(store), lost_places(store)], [(), (), (), ()])

    def test_amid_writes(self):
        store = done(Store(PAIR, PAIR_PLAN), ("write", 4), ("spoil", 3))
        self.assertEqual([shown(store), whole_places(store), left_to_write(store)], [(0, 1, 0, "?", 0), (4,), (3,)])
        self.assertEqual([readers(store, 0), readers(store, 1)], [(0, 2, 4), (1,)])

    def test_what_no_place_tells(self):
        store = done(Store(PAIR, PAIR_PLAN), ("lose", 1), ("lose", 2))
        self.assertEqual([untold(store), lost_places(store)], [(1,), (1, 2)])
        self.assertEqual([untold(done(store, ("lose", 0))), readers(store, 0)], [(0, 1), ()])

    def test_left_to_write_leaves_out_lost_places(self):
        store = done(Store(PAIR, PAIR_PLAN), ("lose", 4))
        self.assertEqual(left_to_write(store), (3,))
        self.assertEqual(left_to_write(done(store, ("write", 3))), ())
        self.assertEqual(left_to_write(done(store, ("mark",))), (0, 1))

    def test_left_to_write_where_no_stretch_goes_on(self):
        store = done(Store(TASK, PLAN), ("turn",), ("write", 2), ("mark",))
        self.assertEqual([going_on(store), left_to_write(store)], [("back", -1), ()])
        store = Store(((1,), (0,), (0,)), ())
        self.assertEqual(left_to_write(store), ())


class LostOf(unittest.TestCase):
    def test_the_greater_one_of_ahead_and_behind(self):
        store = done(Store(PAIR, PAIR_PLAN), ("lose", 3), ("lose", 4))
        # Ahead both are open, behind they have 1 and 0.
        self.assertEqual([lost_of(store, 0), lost_of(store, 1)], [1, 1])
        self.assertEqual(lost_of(done(store, ("lose", 0)), 0), 2)
        done(store, ("mark",), ("lose", 1))
        # Ahead 0 and 4 have 0, and 1 and 3 have 1; behind 0, 1 and 4 have 0, and 3 has 1.
        self.assertEqual([lost_of(store, 0), lost_of(store, 1)], [3, 2])

    def test_at_the_last_end(self):
        store = Store(TASK, PLAN)
        for place in (2, 0, 1):
            done(store, ("write", place), ("mark",))
        done(store, ("lose", 0))
        self.assertEqual([lost_of(store, 0), lost_of(store, 1)], [0, 1])
        done(store, ("turn",), ("lose", 1))
        # Where the last stretch goes on again, both its layouts count: (1, 1, 0) and (1, 0, 0).
        self.assertEqual([lost_of(store, 0), lost_of(store, 1)], [1, 2])

    def test_at_the_first_end(self):
        store = done(Store(TASK, PLAN), ("lose", 2))
        self.assertEqual(lost_of(store, 0), 1)
        done(store, ("turn",), ("mark",))
        self.assertEqual([going_on(store), lost_of(store, 0)], [("back", -1), 0])
        self.assertEqual(lost_of(done(store, ("lose", 0)), 0), 1)

    def test_without_stretches(self):
        store = done(Store(((2,), (0, 0, 0), (0, 0, None)), ()), ("lose", 2), ("lose", 0))
        self.assertEqual(lost_of(store, 0), 2)
        self.assertEqual(lost_of(done(store, ("turn",)), 0), 2)


def key(store):
    return going_on(store), shown(store), whole_places(store), lost_places(store)


def reached(task, plan, losses):
    """All states of a store to which writes, halves, cuts, marks, turns and some losses lead."""
    first = Store(task, plan)
    found, ahead = {key(first): first}, [first]
    while ahead:
        store = ahead.pop()
        deeds = [("cut",), ("mark",), ("turn",)]
        for place in range(len(task[1])):
            deeds.extend([("write", place), ("spoil", place)])
            if len(lost_places(store)) < losses:
                deeds.append(("lose", place))
        for name, *given in deeds:
            other = store.twin()
            if raised(getattr(other, name), *given) is None and key(other) not in found:
                found[key(other)] = other
                ahead.append(other)
    return list(found.values())


WALKS = [
    (TASK, PLAN, 0),
    (PAIR, PAIR_PLAN, 1),
    (((2,), (0, 0, None), (None, 0, 0)), (((2, 0),),), 2),
    (((2, 1), (0, 0, 1, None), (1, 0, 0, None)), (((3, 2),), ((2, 0),), ((0, 3),)), 2),
    (((1, 1), (0, 1, None, None), (1, 0, None, None)), (((2, 0), (3, 1)), ((0, 3), (1, 2))), 1),
]


class Walks(unittest.TestCase):
    def test_plans_are_safe(self):
        for task, plan, _ in WALKS:
            self.assertIs(is_safe_plan(task, plan), True)

    def test_without_a_loss_each_value_has_as_many_readers_as_it_needs(self):
        for task, plan, _ in WALKS:
            stores = reached(task, plan, 0)
            self.assertGreater(len(stores), 8)
            for store in stores:
                self.assertEqual(untold(store), ())
                for value, need in enumerate(task[0]):
                    self.assertGreaterEqual(len(readers(store, value)), need)

    def test_while_fewer_are_lost_than_needed_each_value_has_a_reader(self):
        for task, plan, losses in WALKS:
            for store in reached(task, plan, losses):
                for value, need in enumerate(task[0]):
                    if lost_of(store, value) < need:
                        self.assertNotEqual(readers(store, value), ())

    def test_with_a_plan_that_is_not_safe_a_value_has_too_few_readers_at_some_moment(self):
        task, plan = ((2,), (0, 0, None), (None, 0, 0)), (((1, 0), (2, 0)),)
        self.assertIs(is_safe_plan(task, plan), False)
        self.assertTrue(any(len(readers(store, 0)) < 2 for store in reached(task, plan, 0)))
        lost = [store for store in reached(task, plan, 1) if lost_of(store, 0) < 2]
        self.assertTrue(any(untold(store) == (0,) for store in lost))

    def test_a_walk_can_always_be_ended_without_a_loss(self):
        for task, plan, _ in WALKS:
            for store in reached(task, plan, 0):
                way, index = going_on(store)
                for _ in range(len(plan) - index if way == "on" else index + 1):
                    done(store, *[("write", place) for place in left_to_write(store)], ("mark",))
                self.assertEqual(left_to_write(store), ())
                if way == "back":
                    self.assertEqual(shown(store), task[1])
                else:
                    told = zip(shown(store), task[2])
                    self.assertTrue(all(item is None or item == there for there, item in told))


if __name__ == "__main__":
    unittest.main()
