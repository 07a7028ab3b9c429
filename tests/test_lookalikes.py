"""Promise [21], and what [5] says of stretches that are not safe."""

import itertools
import unittest

from tests.helpers import all_kinds, of_other_kinds, raised, stretches, told_by
from tests.test_judge import LAYOUTS, PLAN, TASK
from whilemoved.errors import CannotDo
from whilemoved.judge import first_unsafe, is_safe, left_standings
from whilemoved.layouts import can_be_done, places_of
from whilemoved.lookalikes import first_lookalike, is_lookalike, lookalike

NEEDS, LAYOUT, BOTH = (3, 1), (0, 0, 1, 0, 1), ((0, 1), (2, 1))
GOOD = ((1, 3), (5, -4), (0, -4))


class Lookalike(unittest.TestCase):
    def test_of_the_least_value_that_lacks(self):
        self.assertEqual(lookalike((1, 1), (0, 1, None), ((0, 1),)), ((), (0, 0), (1, 0)))
        self.assertEqual(lookalike(NEEDS, LAYOUT, BOTH), ((1, 3), (0, 0), (1, 0)))
        self.assertEqual(lookalike((1, 2, 1), (0, 1, 1, 2, None, 0), ((1, 2), (3, 2))), ((2,), (0, 0, 0), (0, 1, 0)))
        self.assertEqual(lookalike((1, 2, 1), (0, 1, 1, 2, None, 0), ((3, 2),)), ((), (0, 0, 0), (0, 0, 1)))

    def test_of_a_value_that_lacks_already(self):
        self.assertEqual(lookalike((3,), (0, None, 0), ((1, 0),)), ((0, 2), (0,), (1,)))

    def test_safe_stretches_have_none(self):
        self.assertIsNone(lookalike((1, 1), (0, 1, None), ((2, 0),)))
        self.assertIsNone(lookalike((2,), (0, 0, 0), ((0, 1),)))

    def test_there_is_one_exactly_if_a_stretch_is_not_safe(self):
        for needs, layout in LAYOUTS:
            for stretch in [stretch for stretch in stretches(len(layout)) if can_be_done(layout, stretch)]:
                told = lookalike(needs, layout, stretch)
                self.assertIs(told is None, is_safe(needs, layout, stretch))
                if told is not None:
                    self.assertIs(is_lookalike(needs, layout, stretch, told), True)
                    left = left_standings(needs, layout, stretch)
                    lacking = [value for value, need in enumerate(needs) if left[value] < need]
                    self.assertEqual(told[2].index(1), lacking[0])
                    self.assertEqual(told[0], tuple(
                        place for place, item in enumerate(layout)
                        if item == lacking[0] and place not in places_of(stretch)))


class IsLookalike(unittest.TestCase):
    def check(self, thing, truth, needs=NEEDS, layout=LAYOUT, stretch=BOTH):
        before = repr(thing)
        self.assertIs(is_lookalike(needs, layout, stretch, thing), truth, thing)
        self.assertEqual(repr(thing), before)

    def test_contents(self):
        for thing in (GOOD, ((1, 3), (0, 0), (1, 0)), ((1, 3), (10 ** 39, 7), (-3, 7))):
            self.check(thing, True)
        bad = [
            ((0, 0), (0, 0)), ((0, 0), (1, 1)), ((0,), (1,)), ((0, 0, 0), (1, 0, 0)), ((0, 0), (1,)), ((), ()),
            ((0, 0), (None, 0)), ((0, 0), (0, 1)), ((0, False), (1, False)), ("00", "10"), (None, None), (0, 1),
        ]
        for one, other in bad:
            self.check(((1, 3), one, other), False)

    def test_the_places_that_are_lost(self):
        lots = [(), (1,), (3,), (3, 1), (1, 1, 3), (0, 1, 3), (1, 2, 3), (1, 3, 5), (1, 3, 4), (0, 1)]
        for lost in lots + [[1, 3], "13", {1: 3}, None, 1]:
            self.check((lost, (0, 0), (1, 0)), False)

    def test_fewer_places_than_the_need(self):
        self.check(((), (0, 0), (0, 1)), False)
        self.check(((4,), (0, 0), (0, 1)), False)
        self.check(((4,), (0, 0), (0, 1)), True, needs=(3, 2))
        self.check(((1, 3), (0, 0), (1, 0)), False, needs=(2, 1))
        self.check(((), (0, 0), (0, 1)), True, layout=(0, 0, 1, 0, None))

    def test_any_value_that_lacks_may_be_told(self):
        for value, other in enumerate(((1, 0), (0, 1))):
            told = tuple(place for place in (1, 3, 4) if LAYOUT[place] == value)
            self.check((told, (0, 0), other), True, needs=(3, 2))

    def test_any_value(self):
        bad = [GOOD[:2], GOOD + ((),), GOOD[::-1], (GOOD,), GOOD[0], (None, None, None), ((), (), ())]
        for thing in all_kinds() + of_other_kinds(GOOD) + of_other_kinds(((1, 3), (0, 0), (1, 0))) + bad:
            self.check(thing, False)

    def test_no_values(self):
        for thing in (((), (), ()), ((0,), (), ()), ((), (0,), (1,))):
            self.check(thing, False, needs=(), layout=(None, None), stretch=((0, 1),))

    def test_all_small_things(self):
        contents = list(itertools.product((0, 1), repeat=2))
        lots = [lot for size in range(4) for lot in itertools.combinations(range(4), size)]
        for needs, layout in (((2, 1), (0, 1, 0, None)), ((1, 1), (0, 1, 1, 0)), ((2, 2), (0, 1, 1, 0))):
            for stretch in [stretch for stretch in stretches(4) if can_be_done(layout, stretch)]:
                found = [
                    (lost, one, other) for lost in lots for one in contents for other in contents
                    if is_lookalike(needs, layout, stretch, (lost, one, other))]
                for lost, one, other in found:
                    unlike = [value for value in (0, 1) if one[value] != other[value]]
                    self.assertEqual(len(unlike), 1)
                    self.assertLess(len(lost), needs[unlike[0]])
                    left = [place for place in range(4) if place not in places_of(stretch)]
                    self.assertEqual(lost, tuple(place for place in left if layout[place] == unlike[0]))
                left = left_standings(needs, layout, stretch)
                self.assertEqual(len(found), 4 * len([value for value in (0, 1) if left[value] < needs[value]]))


class First(unittest.TestCase):
    def test_of_the_first_stretch_that_is_not_safe(self):
        self.assertIsNone(first_lookalike(TASK, PLAN))
        self.assertIsNone(first_lookalike(TASK, ()))
        self.assertEqual(first_lookalike(TASK, PLAN[1:2]), (0, ((), (0, 0), (1, 0))))
        self.assertEqual(first_lookalike(TASK, PLAN[:1] + (((1, 0),),)), (1, ((), (0, 0), (0, 1))))
        task = ((3, 1), (0, 0, None, 1), (0, 0, None, 1))
        self.assertIsNone(raised(first_lookalike, ((2, 1),) + task[1:], (((2, 0),),)))

    def test_at_the_layout_where_it_comes(self):
        task = ((2, 1), (0, 0, None, 1), (0, 0, None, 1))
        plan = (((2, 0),), ((1, 3), (2, 3)))
        self.assertEqual(first_lookalike(task, plan), (1, ((0,), (0, 0), (1, 0))))
        self.assertEqual(first_lookalike(task, plan)[0], first_unsafe(task, plan)[0])

    def test_a_stretch_that_cannot_be_done_comes_ahead(self):
        unsafe, bad = ((0, 1),), ((0, 2),)
        self.assertEqual(told_by(raised(first_lookalike, TASK, (bad,))), (CannotDo, {"index": 0}))
        self.assertEqual(told_by(raised(first_lookalike, TASK, (unsafe, bad))), (CannotDo, {"index": 1}))


if __name__ == "__main__":
    unittest.main()
