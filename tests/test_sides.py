"""Promise [32]: what is told from both sides, with [7] and [8]."""

import unittest

from tests.helpers import MANY, by_start, even_tasks, fewest_searched
from tests.test_charging import FIVES, SMALL, TASK, WIDE
from tests.test_groups import rings
from whilemoved.charging import can_twice
from whilemoved.fronts import fewest_stretches
from whilemoved.judge import is_safe_plan
from whilemoved.layouts import writes_of
from whilemoved.once import can_once
from whilemoved.parts import is_even
from whilemoved.sides import is_met, least_stretches, short_plan
from whilemoved.writes import fewest_writes


def fewest_by_search(task):
    """The fewest stretches of all safe plans, None if there is none."""
    if fewest_searched(task, MANY) is None:
        return None
    return next(k for k in range(MANY) if fewest_searched(task, k) is not None)


class Sides(unittest.TestCase):
    def check(self, task, fewest):
        """fewest is the fewest number of stretches, or any from 3 on if the task is not even."""
        least, plan = least_stretches(task), short_plan(task)
        if fewest is None:
            self.assertIsNone(least, task)
            self.assertIsNone(plan, task)
            self.assertIs(is_met(task), True, task)
            return
        self.assertEqual(least, fewest if is_even(task) else min(fewest, 3), task)
        self.assertIs(is_safe_plan(task, plan), True, task)
        if is_even(task) or fewest < 3:
            self.assertEqual(len(plan), fewest, task)
        else:
            self.assertEqual(writes_of(plan), fewest_writes(task), task)
        self.assertIs(is_met(task), len(plan) == least, task)
        self.assertEqual(short_plan(task), plan)

    def test_all_small_tasks_as_the_search_tells(self):
        seen = {}
        for (needs, old), wishes in by_start().items():
            for task in [(needs, old, wish) for wish in wishes]:
                fewest = fewest_by_search(task)
                self.check(task, fewest)
                seen[is_even(task), fewest] = 1 + seen.get((is_even(task), fewest), 0)
        for fewest in (None, 0, 2, 3, 4):
            self.assertGreater(seen[True, fewest], 0, fewest)
        for fewest in (0, 1, 2, 3):
            self.assertGreater(seen[False, fewest], 0, fewest)
        self.assertNotIn((False, None), seen)

    def test_five_places_as_the_search_tells(self):
        for task in FIVES + even_tasks((1, 1, 1), 2) + even_tasks((1, 1, 1, 1), 1) + even_tasks((2, 1), 2):
            self.check(task, fewest_by_search(task))

    def test_examples(self):
        told = [least_stretches(task) for task in (SMALL, WIDE, TASK, ((1, 1), (0, 1), (1, 0)))]
        self.assertEqual(told, [3, 2, 2, None])
        self.assertIs(is_met(SMALL), True)

    def test_nothing_wrong(self):
        for task in (((), (), ()), ((), (None,), (None,)), ((1,), (0,), (0,)), ((1,), (0, 0), (0, None))):
            self.assertEqual([least_stretches(task), short_plan(task), is_met(task)], [0, (), True])

    def test_no_plan(self):
        for task in (((1, 1), (0, 1), (1, 0)), ((2, 1), (0, 0, 1), (1, 0, 0)), rings((2, 3), 0)):
            self.assertEqual([least_stretches(task), short_plan(task), is_met(task)], [None, None, True])

    def test_even_tasks_by_their_groups(self):
        for sizes in ((2,), (5,), (2, 2), (2, 3, 4), (2,) * 6):
            for spare in (1, 2, 4):
                task = rings(sizes, spare)
                self.check(task, fewest_stretches(task))
        self.assertEqual(least_stretches(rings((2, 2), 1)), 6)

    def test_others_with_more_than_two_stretches_are_not_told_by_groups(self):
        # One value has room, so the task is not even, and only one place is open.
        task = ((1,) * 5, (0, 1, 2, 3, 4, 4, None), (1, 0, 3, 2, 4, 4, None))
        self.assertEqual([is_even(task), can_once(task), can_twice(task)], [False] * 3)
        self.assertEqual(least_stretches(task), 3)
        plan = short_plan(task)
        self.assertIs(is_safe_plan(task, plan), True)
        self.assertEqual(writes_of(plan), fewest_writes(task))
        self.assertIs(is_met(task), len(plan) == 3)

    def test_the_bounds(self):
        ring = ((1,) * 8, tuple(range(8)) * 2, tuple(range(1, 8)) + (0,) + tuple(range(2, 8)) + (0, 1))
        self.check(ring, 2)
        pairs = tuple(at ^ 1 for at in range(10))
        swaps = ((1,) * 12, tuple(range(12)) + (11, 11, 11, None), pairs + (10,) + (11,) * 4 + (None,))
        self.assertEqual(least_stretches(swaps), 3)
        self.check(swaps, 3)


if __name__ == "__main__":
    unittest.main()
