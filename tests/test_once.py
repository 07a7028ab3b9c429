"""Promise [29], and what [8] says of one stretch."""

import unittest

from tests.helpers import TASKS, by_start, fewest_searched
from whilemoved.judge import is_safe_plan
from whilemoved.layouts import writes_of, wrong_places
from whilemoved.once import can_once, once_plan, over_tails

SWAP = ((1, 1), (0, 1), (1, 0))


class Tails(unittest.TestCase):
    def test_examples(self):
        self.assertEqual(over_tails(SWAP), {0: (1, 0), 1: (1, 0)})
        self.assertEqual(over_tails(((1, 1), (0, 0, 1), (0, 1, None))), {})
        self.assertEqual(over_tails(((1, 1), (0, 0, 0, 1), (1, 1, 1, 0))), {0: (3, 2), 1: (1, 0)})
        self.assertEqual(over_tails(((2, 1), (0, 0, 0, 1), (1, 1, 0, 0))), {0: (2, 1), 1: (1, 0)})
        self.assertEqual(over_tails(((2, 1), (0, 0, 0, 1, None), (1, None, 0, None, 0))), {})

    def test_open_tails_and_free_places_are_none(self):
        self.assertEqual(over_tails(((1,), (0, None), (None, 0))), {})
        self.assertEqual(over_tails(((1, 1), (0, 1, None), (None, 0, 1))), {1: (1, 0)})

    def test_no_values_and_nothing_wrong(self):
        for task in (((), (), ()), ((), (None,), (None,)), ((1,), (0, 0), (0, None))):
            self.assertEqual([over_tails(task), can_once(task), once_plan(task)], [{}, True, ()])

    def test_all_small_tasks_as_the_definition_tells(self):
        for task in TASKS:
            needs, old, wish = task
            found = {}
            for value, need in enumerate(needs):
                arrows = [place for place in wrong_places(task) if old[place] == value]
                if len(arrows) > old.count(value) - need:
                    found[value] = (len(arrows), old.count(value) - need)
            told = over_tails(task)
            self.assertEqual(told, found)
            self.assertEqual(list(told), sorted(told))
            self.assertIs(can_once(task), found == {})

    def test_new_dicts(self):
        over_tails(SWAP).clear()
        self.assertEqual(over_tails(SWAP), {0: (1, 0), 1: (1, 0)})
        self.assertIsNot(over_tails(SWAP), over_tails(SWAP))
        task = ((1,), (0,), (0,))
        over_tails(task)[0] = None
        self.assertEqual(over_tails(task), {})


class Plans(unittest.TestCase):
    def test_all_small_tasks_as_the_search_tells(self):
        seen = {True: 0, False: 0}
        for (needs, old), wishes in by_start().items():
            for wish in wishes:
                task = (needs, old, wish)
                fewest, plan = fewest_searched(task, 1), once_plan(task)
                self.assertIs(can_once(task), fewest is not None, task)
                if fewest is None:
                    self.assertIsNone(plan)
                else:
                    self.assertIs(is_safe_plan(task, plan), True, task)
                    self.assertEqual(len(plan), 0 if fewest == 0 else 1)
                    self.assertEqual(writes_of(plan), fewest)
                seen[fewest is not None] += 1
        self.assertGreater(min(seen.values()), 500)

    def test_examples(self):
        self.assertIsNone(once_plan(SWAP))
        self.assertEqual(once_plan(((1, 1), (0, 0, 1), (0, 1, None))), (((1, 2),),))
        self.assertEqual(once_plan(((1,), (0, None), (None, 0))), (((1, 0),),))

    def test_the_bounds(self):
        task = ((1,) * 4, (0, 1, 2, 3) * 4, (0, 1, 2, 3, 1, 2, 3, 0, 2, 3, 0, 1, 3, 0, 1, 2))
        plan = once_plan(task)
        self.assertIs(is_safe_plan(task, plan), True)
        self.assertEqual([len(stretch) for stretch in plan], [12])


if __name__ == "__main__":
    unittest.main()
