"""Promise [24], and what [6] says of plans with the fewest writes."""

import itertools
import unittest

from tests.helpers import MANY, by_start, even_tasks, fewest_searched, safe_stretches
from tests.test_writes import STAYS, SWAP
from whilemoved.changes import beside, with_spare
from whilemoved.fewest import can_begin, fewest_plan
from whilemoved.judge import is_safe_plan
from whilemoved.layouts import led
from whilemoved.writes import fewest_writes

WIDE = [
    ((1,) * 12, tuple(range(12)) + (None,) * 4, (1, 0, 3, 2, 5, 4, 7, 6, 9, 8, 11, 10) + (None,) * 4),
    ((1,) * 12, tuple(range(12)) + (None,), tuple(range(11, -1, -1)) + (None,)),
    ((4, 4, 4), (0, 1, 2) * 4 + (None,) * 4, (1, 2, 0) * 4 + (None,) * 4),
    ((1, 1), (0,) * 8 + (1,) * 8, (1,) * 8 + (0,) * 8),
    ((1,) * 8, tuple(range(8)) * 2, tuple(range(7, -1, -1)) * 2),
    ((1,) * 12, tuple(range(12)) + (11,) * 4, tuple(range(1, 11)) + (0,) + (11,) * 5),
    ((1,) * 14, tuple(range(14)) + (None,) * 2, tuple(at ^ 1 for at in range(14)) + (None,) * 2),
]


def first_copies(task):
    """The copies with which plans with the fewest writes can begin, all plans being gone through."""
    needs, old, wish = task
    fewest = fewest_searched(task, MANY)
    found = []
    for stretch in safe_stretches(needs, old):
        if len(stretch) == 1:
            behind = fewest_searched((needs, led(old, stretch), wish), MANY)
            if behind is not None and behind + 1 == fewest:
                found.append(stretch[0])
    return sorted(found)


class Plans(unittest.TestCase):
    def check(self, task, fewest):
        plan = fewest_plan(task)
        if fewest is None:
            self.assertIsNone(plan, task)
            return
        self.assertIs(is_safe_plan(task, plan), True, task)
        self.assertEqual([len(stretch) for stretch in plan], [1] * fewest, task)
        self.assertEqual(fewest_plan(task), plan)

    def test_all_small_tasks(self):
        for (needs, old), wishes in by_start().items():
            for wish in wishes:
                self.check((needs, old, wish), fewest_searched((needs, old, wish), MANY))

    def test_even_tasks(self):
        for needs, spare in (((1, 1, 1, 1), 1), ((2, 2), 1), ((2, 1), 2), ((1, 1, 1), 0)):
            for task in even_tasks(needs, spare):
                self.check(task, fewest_searched(task, MANY))

    def test_edges(self):
        self.assertEqual(fewest_plan(((), (), ())), ())
        self.assertEqual(fewest_plan(((1,), (0, 0), (0, None))), ())
        self.assertIsNone(fewest_plan(SWAP))
        self.assertEqual(fewest_plan(((1,), (0, None), (None, 0))), (((1, 0),),))
        self.check(with_spare(SWAP, 1), 3)
        self.check(STAYS, 4)

    def test_a_write_that_would_close_a_part_too_early(self):
        # To write place 0 first would leave places 1 and 2 a closed part.
        task = ((1, 1, 1), (0, 0, 1, 2), (2, 1, 0, 2))
        self.check(task, 3)
        self.assertEqual(can_begin(task), [(1, 2)])

    def test_the_bounds(self):
        for task in WIDE:
            self.check(task, fewest_writes(task))
            self.check(beside(SWAP, task), fewest_writes(beside(SWAP, task)))


class Begin(unittest.TestCase):
    def test_all_small_tasks(self):
        seen = 0
        for (needs, old), wishes in by_start().items():
            for wish in wishes[::3]:
                task = (needs, old, wish)
                copies = first_copies(task)
                self.assertEqual(can_begin(task), copies, task)
                seen += len(copies) > 1
        self.assertGreater(seen, 200)

    def test_even_tasks(self):
        for needs, spare in (((1, 1, 1, 1), 1), ((2, 2), 1), ((2, 1), 2)):
            for task in even_tasks(needs, spare):
                self.assertEqual(can_begin(task), first_copies(task), task)

    def test_edges(self):
        for task in (((), (), ()), ((), (None,), (None,)), ((1,), (0, 0), (0, None)), SWAP):
            self.assertEqual(can_begin(task), [])
        self.assertEqual(can_begin(((1,), (0, None), (None, 0))), [(1, 0)])
        self.assertEqual(can_begin(STAYS), [(2, 0), (2, 1), (3, 0), (3, 1)])

    def test_each_source_of_a_value(self):
        task = ((1, 1), (0, 0, 1, 1, None), (0, 0, 1, 1, 1))
        self.assertEqual(can_begin(task), [(4, 2), (4, 3)])
        task = ((1, 1), (0, 0, 1, 1, None), (1, 0, 1, 1, None))
        self.assertEqual(can_begin(task), [(0, 2), (0, 3)])

    def test_a_place_that_is_written_again(self):
        task = ((1, 1, 1), (0, 1, 2, None), (1, 0, 2, 2))
        copies = first_copies(task)
        self.assertEqual(can_begin(task), copies)
        self.assertEqual(copies, [(3, 0), (3, 1)])

    def test_new_lists(self):
        task = with_spare(SWAP, 1)
        told = can_begin(task)
        can_begin(task).clear()
        self.assertEqual(can_begin(task), told)
        self.assertIsNot(can_begin(task), can_begin(task))
        can_begin(SWAP).append(None)
        self.assertEqual(can_begin(SWAP), [])

    def test_the_bounds(self):
        for task in WIDE:
            needs, old, wish = task
            copies = can_begin(task)
            self.assertGreater(len(copies), 0)
            self.assertEqual(copies, sorted(set(copies)))
            for copy in itertools.permutations(range(len(old)), 2):
                if copy not in copies:
                    continue
                after = led(old, (copy,))
                self.assertEqual(fewest_writes((needs, after, wish)) + 1, fewest_writes(task))


if __name__ == "__main__":
    unittest.main()
