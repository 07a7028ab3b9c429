"""Promise [18]."""

import unittest

from tests.helpers import all_kinds, done, of_other_kinds, raised, told_by
from whilemoved.errors import NoPlace, NoSource, NotDone, Nothing, Wrong
from whilemoved.store import Store
from whilemoved.views import going_on, left_to_write, lost_places, shown, whole_places

TASK = ((1, 1), (0, 1, None), (1, 0, None))
PLAN = (((2, 0),), ((0, 1),), ((1, 2),))
WIDE = ((1, 1), (0, 1, None, None), (None, None, 0, 1))
BOTH = (((2, 0), (3, 1)),)


def state(store):
    return going_on(store), shown(store), whole_places(store), lost_places(store)


class Stores(unittest.TestCase):
    def check_refused(self, store, error, field, name, *given):
        """That a deed raises an error that keeps the very object, and changes nothing, also for undo."""
        before, twin, many = state(store), store.twin(), undoable(store)
        got = raised(getattr(store, name), *given)
        self.assertIs(type(got), error, (name, given))
        if field is not None:
            self.assertEqual(list(vars(got)), list(field))
            for key, thing in field.items():
                self.assertIs(getattr(got, key), thing)
        self.assertEqual(state(store), before)
        self.assertTrue(store == twin)
        self.assertEqual(undoable(store), many)


def undoable(store):
    """How many deeds can be taken back."""
    twin, many = store.twin(), 0
    while raised(twin.undo) is None:
        many += 1
    return many


class Made(Stores):
    def test_at_first(self):
        self.assertEqual(state(Store(TASK, PLAN)), (("on", 0), (0, 1, None), (), ()))
        self.assertEqual(state(Store(((), (), ()), ())), (("on", 0), (), (), ()))

    def test_a_plan_that_is_not_safe(self):
        store = Store(((2,), (0, 0, None), (None, 0, 0)), (((1, 0), (2, 0)),))
        self.assertEqual(shown(done(store, ("cut",))), (0, "?", "?"))

    def test_wrong_tasks(self):
        for thing in all_kinds() + of_other_kinds(TASK) + [((1,), (0,), (0, 0)), ((2,), (0,), (0,)), Store(TASK, PLAN)]:
            before = repr(thing)
            self.assertEqual(told_by(raised(Store, thing, PLAN)), (Wrong, {"place": 0}), thing)
            self.assertEqual(told_by(raised(Store, thing, None)), (Wrong, {"place": 0}), thing)
            self.assertEqual(repr(thing), before)

    def test_wrong_plans(self):
        bad = [PLAN[:2], PLAN + (((3, 0),),), (((0, 2),),) + PLAN, ((),) + PLAN, ()]
        for thing in all_kinds() + of_other_kinds(PLAN) + bad:
            before = repr(thing)
            self.assertEqual(told_by(raised(Store, TASK, thing)), (Wrong, {"place": 1}), thing)
            self.assertEqual(repr(thing), before)


class Write(Stores):
    def test_a_place_tells_what_is_wanted_and_is_whole(self):
        store = done(Store(WIDE, BOTH), ("write", 3))
        self.assertEqual(state(store), (("on", 0), (0, 1, None, 1), (3,), ()))
        self.assertEqual(state(done(store, ("write", 2))), (("on", 0), (0, 1, 0, 1), (2, 3), ()))

    def test_once_more_changes_nothing_but_counts_for_undo(self):
        store = done(Store(WIDE, BOTH), ("write", 3), ("write", 3))
        self.assertEqual([state(store)[1:3], undoable(store)], [((0, 1, None, 1), (3,)), 2])

    def test_places_that_are_none(self):
        store = Store(WIDE, BOTH)
        for thing in all_kinds() + [0, 1, 4, 2.0, [2], (2,), "2", Store(WIDE, BOTH)]:
            self.check_refused(store, NoPlace, {"place": thing}, "write", thing)
            self.check_refused(store, NoPlace, {"place": thing}, "spoil", thing)

    def test_truths_are_no_places(self):
        store = Store(((1, 1), (0, 1, None), (None, 0, 1)), (((2, 1),), ((1, 0),), ((0, 2),)))
        done(store, ("write", 2), ("mark",))
        self.check_refused(store, NoPlace, {"place": True}, "write", True)
        self.check_refused(store, NoPlace, {"place": True}, "spoil", True)
        self.check_refused(store, NoPlace, {"place": True}, "lose", True)
        self.assertIsNone(store.write(1))
        self.check_refused(done(store, ("mark",)), NoPlace, {"place": False}, "write", False)
        self.assertIsNone(store.write(0))

    def test_no_stretch_goes_on(self):
        store = done(Store(WIDE, BOTH), ("write", 2), ("write", 3), ("mark",))
        self.check_refused(store, NoPlace, {"place": 2}, "write", 2)
        self.check_refused(store, NoPlace, {"place": 2}, "spoil", 2)

    def test_a_lost_place(self):
        store = done(Store(WIDE, BOTH), ("lose", 2))
        self.check_refused(store, NoPlace, {"place": 2}, "write", 2)
        self.check_refused(store, NoPlace, {"place": 2}, "spoil", 2)

    def test_no_source(self):
        store = done(Store(WIDE, BOTH), ("lose", 1))
        self.check_refused(store, NoSource, {"place": 3}, "write", 3)
        self.assertIsNone(store.write(2))

    def test_a_place_of_the_stretch_is_no_source(self):
        task = ((1,), (0, None, None), (None, 0, 0))
        store = done(Store(task, (((1, 0), (2, 0)),)), ("write", 1), ("lose", 0))
        self.check_refused(store, NoSource, {"place": 2}, "write", 2)
        self.check_refused(store, NoSource, {"place": 1}, "write", 1)

    def test_no_place_comes_ahead_of_no_source(self):
        store = done(Store(WIDE, BOTH), ("lose", 1), ("lose", 3))
        self.check_refused(store, NoPlace, {"place": 3}, "write", 3)

    def test_any_place_that_tells_the_value_is_a_source(self):
        task = ((1,), (0, 0, None), (None, None, 0))
        store = done(Store(task, (((2, 0),),)), ("lose", 0), ("write", 2))
        self.assertEqual(shown(store), ("?", 0, 0))

    def test_an_open_place_is_wanted_without_a_source(self):
        store = done(Store(WIDE, BOTH), ("write", 2), ("write", 3), ("lose", 0), ("lose", 1), ("turn",))
        self.assertIsNone(store.write(2))
        self.assertEqual(state(store), (("back", 0), ("?", "?", None, 1), (2,), (0, 1)))


class Spoil(Stores):
    def test_a_place_tells_nothing_and_is_not_whole(self):
        store = done(Store(WIDE, BOTH), ("write", 2), ("write", 3), ("spoil", 2))
        self.assertEqual(state(store), (("on", 0), (0, 1, "?", 1), (3,), ()))
        self.check_refused(store, NotDone, {"place": 2}, "mark")
        done(store, ("write", 2), ("mark",))


class Cut(Stores):
    def test_all_places_of_the_stretch_tell_nothing(self):
        store = done(Store(WIDE, BOTH), ("write", 3), ("cut",))
        self.assertEqual(state(store), (("on", 0), (0, 1, "?", "?"), (), ()))

    def test_again_it_counts_for_undo(self):
        store = done(Store(WIDE, BOTH), ("cut",), ("cut",), ("undo",))
        self.assertEqual(shown(store), (0, 1, "?", "?"))
        self.assertEqual(shown(done(store, ("undo",))), (0, 1, None, None))

    def test_where_no_stretch_goes_on(self):
        store = done(Store(WIDE, BOTH), ("write", 2), ("write", 3), ("mark",))
        before = state(store)
        self.assertIsNone(store.cut())
        self.assertEqual([state(store), undoable(store)], [before, 3])
        self.assertEqual(state(done(store, ("undo",)))[0], ("on", 0))
        back = done(Store(TASK, PLAN), ("turn",), ("write", 2), ("mark",))
        self.assertEqual(state(done(back, ("cut",))), (("back", -1), (0, 1, None), (), ()))
        self.assertEqual(undoable(back), 3)

    def test_without_stretches(self):
        store = done(Store(((), (None,), (None,)), ()), ("cut",))
        self.assertEqual([shown(store), undoable(store)], [(None,), 0])

    def test_lost_places_stay_lost(self):
        store = done(Store(WIDE, BOTH), ("lose", 2), ("cut",))
        self.assertEqual(state(store), (("on", 0), (0, 1, "?", "?"), (), (2,)))


class Lose(Stores):
    def test_a_place_tells_nothing_and_is_not_whole(self):
        store = done(Store(WIDE, BOTH), ("write", 2), ("write", 3), ("lose", 3), ("lose", 1))
        self.assertEqual(state(store), (("on", 0), (0, "?", 0, "?"), (2,), (1, 3)))

    def test_places_that_are_none(self):
        store = Store(WIDE, BOTH)
        for thing in all_kinds() + [4, (2,), "2", 2.0, BOTH]:
            self.check_refused(store, NoPlace, {"place": thing}, "lose", thing)

    def test_a_place_that_is_lost_already(self):
        store = done(Store(WIDE, BOTH), ("lose", 1))
        self.check_refused(store, NoPlace, {"place": 1}, "lose", 1)

    def test_where_no_stretch_goes_on(self):
        store = done(Store(((), (None,), (None,)), ()), ("lose", 0))
        self.assertEqual(state(store), (("on", 0), ("?",), (), (0,)))


class Mark(Stores):
    def test_the_way_on_and_back(self):
        store = done(Store(TASK, PLAN), ("write", 2), ("mark",))
        self.assertEqual(state(store), (("on", 1), (0, 1, 0), (), ()))
        done(store, ("write", 0), ("mark",), ("write", 1), ("mark",))
        self.assertEqual(state(store), (("on", 3), (1, 0, 0), (), ()))
        done(store, ("turn",), ("write", 1), ("mark",), ("write", 0), ("mark",))
        self.assertEqual(state(store), (("back", 0), (0, 1, 0), (), ()))
        self.assertEqual(state(done(store, ("write", 2), ("mark",))), (("back", -1), (0, 1, None), (), ()))

    def test_the_least_place_that_is_not_done(self):
        store = Store(WIDE, BOTH)
        self.check_refused(store, NotDone, {"place": 2}, "mark")
        self.check_refused(done(store, ("write", 2)), NotDone, {"place": 3}, "mark")
        self.check_refused(done(store, ("cut",)), NotDone, {"place": 2}, "mark")
        self.check_refused(done(store, ("lose", 2)), NotDone, {"place": 3}, "mark")

    def test_all_places_of_a_stretch_lost(self):
        store = done(Store(WIDE, BOTH), ("lose", 2), ("lose", 3), ("mark",))
        self.assertEqual(state(store), (("on", 1), (0, 1, "?", "?"), (), (2, 3)))

    def test_where_no_stretch_goes_on(self):
        self.check_refused(Store(((), (), ()), ()), Nothing, {}, "mark")
        store = done(Store(WIDE, BOTH), ("write", 2), ("write", 3), ("mark",))
        self.check_refused(store, Nothing, {}, "mark")
        done(store, ("turn",), ("write", 2), ("write", 3), ("mark",))
        self.check_refused(store, Nothing, {}, "mark")

    def test_a_place_that_was_whole_for_another_stretch_is_not(self):
        task = ((1,), (0, None, None), (None, None, 0))
        store = Store(task, (((2, 0),), ((1, 2),), ((2, 1),)))
        done(store, ("write", 2), ("mark",))
        self.assertEqual(whole_places(store), ())
        self.check_refused(store, NotDone, {"place": 1}, "mark")
        self.check_refused(done(store, ("write", 1), ("mark",)), NotDone, {"place": 2}, "mark")


class Turn(Stores):
    def test_amid_a_stretch_the_index_stays(self):
        store = done(Store(TASK, PLAN), ("write", 2), ("mark",), ("write", 0), ("turn",))
        self.assertEqual(state(store), (("back", 1), (1, 1, 0), (), ()))
        self.assertEqual(left_to_write(store), (0,))
        self.assertEqual(state(done(store, ("turn",))), (("on", 1), (1, 1, 0), (), ()))

    def test_at_either_end(self):
        store = done(Store(TASK, PLAN), ("turn",))
        self.assertEqual(going_on(store), ("back", 0))
        done(store, ("write", 2), ("mark",))
        self.assertEqual([going_on(store), left_to_write(store)], [("back", -1), ()])
        self.assertEqual(going_on(done(store, ("turn",))), ("on", 0))
        for place in (2, 0, 1):
            done(store, ("write", place), ("mark",))
        self.assertEqual(going_on(store), ("on", 3))
        self.assertEqual(going_on(done(store, ("turn",))), ("back", 2))
        self.assertEqual(going_on(done(store, ("turn",))), ("on", 2))

    def test_without_stretches(self):
        store = Store(((), (None,), (None,)), ())
        self.assertEqual(going_on(done(store, ("turn",))), ("back", -1))
        self.check_refused(store, Nothing, {}, "mark")
        self.assertEqual(going_on(done(store, ("turn",))), ("on", 0))

    def test_the_way_back_wants_what_was_ahead(self):
        store = done(Store(WIDE, BOTH), ("write", 2), ("turn",), ("write", 2), ("write", 3))
        self.assertEqual(shown(store), (0, 1, None, None))


class Undo(Stores):
    def test_deed_by_deed(self):
        deeds = [
            ("write", 2), ("write", 2), ("spoil", 2), ("spoil", 2), ("cut",), ("cut",), ("lose", 1), ("write", 2),
            ("mark",), ("turn",), ("turn",), ("turn",), ("write", 0), ("mark",), ("turn",),
        ]
        store, states = Store(TASK, PLAN), []
        for deed in deeds:
            states.append(state(store))
            done(store, deed)
        while states:
            self.assertIsNone(store.undo())
            self.assertEqual(state(store), states.pop())
        self.check_refused(store, Nothing, {}, "undo")
        self.assertEqual(state(store), state(Store(TASK, PLAN)))

    def test_what_was_refused_is_not_taken_back(self):
        store = done(Store(WIDE, BOTH), ("write", 2))
        for name, *given in (("write", 0), ("mark",), ("lose", 7), ("spoil", True)):
            self.assertIsNotNone(raised(getattr(store, name), *given))
        self.assertEqual(state(store), (("on", 0), (0, 1, 0, None), (2,), ()))
        self.assertEqual(state(done(store, ("undo",))), (("on", 0), (0, 1, None, None), (), ()))

    def test_nothing_was_done(self):
        self.check_refused(Store(TASK, PLAN), Nothing, {}, "undo")


class Twins(Stores):
    def test_the_same_state_with_what_can_be_taken_back(self):
        store = done(Store(TASK, PLAN), ("write", 2), ("mark",), ("lose", 1), ("turn",))
        twin = store.twin()
        self.assertTrue(store == twin)
        self.assertEqual([state(twin), undoable(twin)], [state(store), 4])
        done(twin, ("undo",), ("undo",))
        self.assertEqual(state(twin), (("on", 1), (0, 1, 0), (), ()))

    def test_both_are_independent(self):
        store = done(Store(TASK, PLAN), ("write", 2))
        twin, before = store.twin(), state(store)
        done(twin, ("lose", 0), ("mark",))
        self.assertEqual([state(store), undoable(store), undoable(twin)], [before, 1, 3])
        other = store.twin()
        done(store, ("undo",))
        self.assertEqual([state(other), undoable(other)], [before, 1])


class Equal(Stores):
    def test_what_was_done_does_not_count(self):
        self.assertIs(Store(TASK, PLAN) == Store(TASK, PLAN), True)
        self.assertIs(Store(TASK, PLAN) != Store(TASK, PLAN), False)
        self.assertIs(done(Store(TASK, PLAN), ("lose", 0), ("undo",)) == Store(TASK, PLAN), True)
        self.assertIs(done(Store(TASK, PLAN), ("turn",), ("turn",)) == Store(TASK, PLAN), True)

    def test_each_thing_that_counts(self):
        one = Store(TASK, PLAN)
        free = ((1, 1), (0, 1, None), (1, None, 0))
        self.assertIs(Store(free, PLAN) == Store(((1, 1), (0, 1, None), (1, 0, None)), PLAN), False)
        longer = PLAN + (((2, 0),),)
        self.assertIs(one == Store(TASK, longer), False)
        self.assertIs(one == done(Store(TASK, PLAN), ("turn",)), False)
        self.assertIs(one == done(Store(TASK, PLAN), ("write", 2)), False)
        self.assertIs(one == done(Store(TASK, PLAN), ("cut",)), False)
        cut, lost = done(Store(TASK, PLAN), ("cut",)), done(Store(TASK, PLAN), ("lose", 2))
        self.assertEqual([shown(cut), whole_places(cut)], [shown(lost), whole_places(lost)])
        self.assertIs(cut == lost, False)

    def test_an_index_alone(self):
        task, plan = ((1,), (0, None), (0, None)), (((1, 0),), ((1, 0),))
        one = done(Store(task, plan), ("write", 1), ("mark",))
        other = done(Store(task, plan), ("write", 1), ("mark",), ("write", 1), ("mark",))
        self.assertEqual(state(one)[1:], state(other)[1:])
        self.assertIs(one == other, False)

    def test_whole_places_alone(self):
        task, plan = ((1,), (0, 0), (0, None)), (((1, 0),),)
        one, other = Store(task, plan), done(Store(task, plan), ("write", 1))
        self.assertEqual(shown(one), shown(other))
        self.assertIs(one == other, False)

    def test_a_store_is_equal_to_nothing_else(self):
        store = Store(TASK, PLAN)
        for thing in all_kinds() + [TASK, PLAN, (TASK, PLAN), state(store), Store, object()]:
            self.assertIs(store == thing, False)
            self.assertIs(thing == store, False)
            self.assertIs(store != thing, True)


class Answers(Stores):
    def test_deeds_return_none(self):
        store = Store(TASK, PLAN)
        for name, *given in (("spoil", 2), ("write", 2), ("cut",), ("lose", 2), ("mark",), ("turn",), ("undo",)):
            self.assertIsNone(getattr(store, name)(*given))


if __name__ == "__main__":
    unittest.main()
