"""Promise [20], and what [5] says of being safe."""

import itertools
import unittest

from tests.helpers import TASKS, all_kinds, of_other_kinds, raised, stretches, told_by
from whilemoved.errors import CannotDo
from whilemoved.judge import borne_losses, first_unsafe, is_safe, is_safe_plan, left_standings
from whilemoved.layouts import can_be_done, led, led_by, places_of
from whilemoved.store import Store

TASK = ((1, 1), (0, 1, None), (1, 0, None))
PLAN = (((2, 0),), ((0, 1),), ((1, 2),))
LAYOUTS = [((), (None, None)), ((1,), (0, 0, None)), ((2, 1), (0, 1, 0, None)), ((1, 1), (0, 1, 1, 0))]


class Stretches(unittest.TestCase):
    def test_left_standings(self):
        layout = (0, 0, 1, None, 0)
        self.assertEqual(left_standings((1, 1, 1), layout, ((0, 2),)), (2, 1, 0))
        self.assertEqual(left_standings((1, 1, 1), layout, ((0, 1), (2, 1), (3, 1))), (2, 0, 0))
        self.assertEqual(left_standings((9, 1), layout, ((3, 0),)), (3, 1))
        self.assertEqual(left_standings((), (None, None), ()), ())

    def test_is_safe(self):
        self.assertIs(is_safe((1, 1), (0, 1, None), ((2, 0),)), True)
        self.assertIs(is_safe((1, 1), (0, 1, None), ((0, 1),)), False)
        self.assertIs(is_safe((2,), (0, 0, 0), ((0, 1),)), True)
        self.assertIs(is_safe((2,), (0, 0, 0), ((0, 1), (2, 1))), False)
        self.assertIs(is_safe((1, 1), (0, 0, 1), ((0, 2),)), True)

    def test_a_value_that_lacks_already(self):
        self.assertIs(is_safe((1, 1), (0, None), ((1, 0),)), False)
        self.assertIs(is_safe((2,), (0, None), ((1, 0),)), False)

    def test_each_value_counts(self):
        for needs, layout in LAYOUTS:
            for stretch in stretches(len(layout)):
                left = [item for place, item in enumerate(layout) if place not in places_of(stretch)]
                counts = tuple(left.count(value) for value in range(len(needs)))
                self.assertEqual(left_standings(needs, layout, stretch), counts)
                safe = all(count >= need for count, need in zip(counts, needs))
                self.assertIs(is_safe(needs, layout, stretch), safe)


class Plans(unittest.TestCase):
    def test_first_unsafe(self):
        self.assertIsNone(first_unsafe(TASK, PLAN))
        self.assertIsNone(first_unsafe(TASK, PLAN[:2]))
        self.assertIsNone(first_unsafe(TASK, ()))
        self.assertEqual(first_unsafe(TASK, PLAN[1:2]), (0, 0))
        self.assertEqual(first_unsafe(TASK, PLAN[:1] + (((1, 0),),)), (1, 1))
        self.assertEqual(first_unsafe(TASK, PLAN[:2] + (((0, 2),), ((1, 2),))), (3, 1))

    def test_the_least_value_that_lacks(self):
        task = ((1, 1, 1), (2, 1, 0), (2, 1, 0))
        self.assertEqual(first_unsafe(task, (((0, 2), (1, 2)),)), (0, 1))
        self.assertEqual(first_unsafe(task, (((1, 0),), ((0, 2),))), (0, 1))

    def test_is_safe_plan(self):
        self.assertIs(is_safe_plan(TASK, PLAN), True)
        self.assertIs(is_safe_plan(TASK, PLAN[:2]), False)
        self.assertIs(is_safe_plan(TASK, PLAN[::-1]), False)
        self.assertIs(is_safe_plan(TASK, (((0, 2),),) + PLAN), False)
        self.assertIs(is_safe_plan(((2,), (0, 0, None), (None, 0, 0)), (((1, 0), (2, 0)),)), False)
        self.assertIs(is_safe_plan(((2,), (0, 0, None), (None, 0, 0)), (((2, 0),),)), True)

    def test_no_stretches(self):
        self.assertIs(is_safe_plan(((), (), ()), ()), True)
        self.assertIs(is_safe_plan(((1,), (0, 0), (0, None)), ()), True)
        self.assertIs(is_safe_plan(TASK, ()), False)

    def test_is_safe_plan_takes_any_value(self):
        others = of_other_kinds(PLAN) + [PLAN + (None,), PLAN + (((3, 0),),), ((),) + PLAN, PLAN[0], Store(TASK, PLAN)]
        for thing in all_kinds() + others:
            before = repr(thing)
            self.assertIs(is_safe_plan(TASK, thing), False, thing)
            self.assertEqual(repr(thing), before)

    def test_a_plan_is_safe_exactly_if_all_its_stretches_are(self):
        seen = {True: 0, False: 0}
        for task in [task for task in TASKS if len(task[1]) == 3][::3]:
            for plan in itertools.product(stretches(3), repeat=2):
                layout, truth = task[1], True
                for stretch in plan:
                    truth = truth and can_be_done(layout, stretch) and is_safe(task[0], layout, stretch)
                    layout = led(layout, stretch) if truth else layout
                truth = truth and all(item in (None, there) for item, there in zip(task[2], layout))
                self.assertIs(is_safe_plan(task, plan), truth)
                seen[truth] += 1
        self.assertGreater(min(seen.values()), 100)


class Losses(unittest.TestCase):
    def test_each_kind_of_moment(self):
        ahead = ((1,), (0, None, None), (0, 0, 0))
        self.assertEqual(borne_losses(ahead, (((1, 0), (2, 0)),)), 0)
        self.assertEqual(borne_losses(((1,), (0, 0, 0), (0, 0, 0)), ()), 2)
        self.assertEqual(borne_losses(((1,), (0, 0, 0), (0, 0, 0)), (((0, 1),),)), 1)
        self.assertEqual(borne_losses(((1,), (0, 0, 0), (0, 0, 0)), (((0, 2), (1, 2)),)), 0)
        behind = ((1, 1), (0, 0, 0, 1), (0, 1, None, 1))
        self.assertEqual(borne_losses(behind, (((1, 3),), ((2, 3),))), 0)

    def test_a_value_that_stands_nowhere(self):
        self.assertEqual(borne_losses(TASK, (((0, 1),),)), -1)
        self.assertEqual(borne_losses(((1,), (0, 0), (0, 0)), (((0, 1),), ((1, 0),))), 0)
        self.assertEqual(borne_losses(((2, 1), (0, 0, 1), (0, 0, 1)), (((0, 2), (1, 2)),)), -1)

    def test_no_values(self):
        self.assertEqual(borne_losses(((), (), ()), ()), 0)
        self.assertEqual(borne_losses(((), (None,) * 5, (None,) * 5), ()), 5)

    def test_what_can_be_lost_at_each_moment(self):
        for task in [task for task in TASKS if len(task[1]) == 3 and task[0]][::29]:
            for stretch in [stretch for stretch in stretches(3) if can_be_done(task[1], stretch)]:
                moments = [task[1], led(task[1], stretch)]
                moments.append(tuple(
                    None if place in places_of(stretch) else item for place, item in enumerate(task[1])))
                self.assertEqual(borne_losses(task, (stretch,)), borne_at_all(task[0], moments), (task, stretch))


def borne_at_all(needs, moments):
    """The greatest number of places any so many of which may be lost at each moment, -1 if it is none."""
    for many in range(len(moments[0]), -1, -1):
        lots = list(itertools.combinations(range(len(moments[0])), many))
        left = [[item for place, item in enumerate(moment) if place not in lot] for moment in moments for lot in lots]
        if all(value in items for items in left for value in range(len(needs))):
            return many
    return -1


class CannotBeDone(unittest.TestCase):
    def test_it_comes_ahead_of_all_else(self):
        unsafe, bad = ((0, 1),), ((0, 2),)
        for call in (first_unsafe, borne_losses):
            self.assertEqual(told_by(raised(call, TASK, (bad,))), (CannotDo, {"index": 0}))
            self.assertEqual(told_by(raised(call, TASK, (unsafe, bad))), (CannotDo, {"index": 1}))
            self.assertEqual(told_by(raised(call, TASK, (unsafe, unsafe, bad, bad))), (CannotDo, {"index": 2}))
        empty = ((), (None, None), (None, None))
        self.assertEqual(told_by(raised(borne_losses, empty, (((0, 1),),))), (CannotDo, {"index": 0}))

    def test_it_is_the_stretch_that_led_by_tells(self):
        for plan in itertools.product(stretches(3), repeat=2):
            error = raised(led_by, TASK[1], plan)
            got = raised(first_unsafe, TASK, plan)
            self.assertEqual(None if got is None else told_by(got), None if error is None else told_by(error))


if __name__ == "__main__":
    unittest.main()
