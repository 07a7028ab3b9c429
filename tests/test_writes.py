"""Promise [23], and what [6] says of the fewest writes."""

import unittest

from tests.helpers import MANY, by_start, even_tasks, fewest_searched
from whilemoved.changes import beside, with_spare
from whilemoved.parts import counts_of, places_with_room
from whilemoved.layouts import staying_places
from whilemoved.writes import fewest_writes, has_plan, needs_one_more

SWAP = ((1, 1), (0, 1), (1, 0))
STAYS = ((1, 1, 1), (0, 1, 2, 2), (1, 0, 2, 2))


class Edges(unittest.TestCase):
    def check(self, task, has, more, fewest):
        self.assertIs(has_plan(task), has, task)
        self.assertIs(needs_one_more(task), more, task)
        self.assertEqual(fewest_writes(task), fewest, task)

    def test_nothing_wrong(self):
        for task in (((), (), ()), ((), (None,), (None,)), ((1,), (0,), (0,)), ((1,), (0, 0), (0, None))):
            self.check(task, True, False, 0)
        self.check(((1, 1), (0, 1), (0, 1)), True, False, 0)

    def test_no_room_at_all(self):
        self.check(SWAP, False, False, None)
        self.check(((2, 1), (0, 0, 1), (1, 0, 0)), False, False, None)
        self.check(beside(SWAP, SWAP), False, False, None)

    def test_an_open_place(self):
        self.check(with_spare(SWAP, 1), True, False, 3)
        self.check(with_spare(beside(SWAP, SWAP), 1), True, False, 6)
        self.check(((1,), (0, None), (None, 0)), True, False, 1)

    def test_room_only_at_places_that_stay(self):
        self.check(STAYS, True, True, 4)
        self.check(beside(SWAP, ((1,), (0, 0), (0, 0))), True, True, 4)
        self.check(((2, 1, 1), (0, 0, 0, 1, 2), (0, 0, 0, 2, 1)), True, True, 4)

    def test_room_at_free_places(self):
        self.check(((1, 1, 1), (0, 1, 2, 2), (1, 0, 2, None)), True, False, 3)
        self.check(((1, 1, 1), (0, 1, 2, 2), (1, 0, None, 2)), True, False, 3)

    def test_room_at_places_that_stay_without_a_closed_part(self):
        self.check(((1, 1), (0, 0, 1), (0, 1, 1)), True, False, 1)
        self.check(((1,), (0, 0), (0, 0)), True, False, 0)

    def test_open_parts(self):
        self.check(((1, 1), (0, 0, 1), (1, 0, 1)), True, False, 1)
        self.check(((1, 1), (0, 1, 1), (1, 0, None)), True, False, 2)
        self.check(beside(SWAP, ((1, 1), (0, 0, 1), (0, 1, 0))), True, False, 5)

    def test_needs_above_one(self):
        self.check(((2, 1, 1), (0, 0, 1, 2, None), (1, 2, 0, 0, None)), True, False, 5)
        self.check(((4, 4), (0,) * 4 + (1,) * 4 + (None,), (1,) * 4 + (0,) * 4 + (None,)), True, False, 9)

    def test_the_bounds(self):
        pairs = (1, 0, 3, 2, 5, 4, 7, 6, 9, 8, 11, 10)
        self.check(((1,) * 12, tuple(range(12)) + (None,) * 4, pairs + (None,) * 4), True, False, 18)
        full = ((1,) * 16, tuple(range(16)), tuple(at ^ 1 for at in range(16)))
        self.check(full, False, False, None)
        self.assertEqual(counts_of(full), (16, 8))


class Search(unittest.TestCase):
    def test_all_small_tasks(self):
        seen = {None: 0, 0: 0, 1: 0}
        for (needs, old), wishes in by_start().items():
            for task in [(needs, old, wish) for wish in wishes]:
                fewest = fewest_searched(task, MANY)
                self.assertEqual(fewest_writes(task), fewest, task)
                self.assertIs(has_plan(task), fewest is not None, task)
                wrong, closed = counts_of(task)
                roomy = places_with_room(task)
                more = closed > 0 and len(roomy) > 0 and set(roomy) <= set(staying_places(task))
                self.assertIs(needs_one_more(task), more, task)
                seen[None if fewest is None else fewest - wrong - closed] += 1
        self.assertGreater(min(seen.values()), 5)

    def test_even_tasks(self):
        for needs, spare in (((1, 1, 1, 1), 1), ((2, 2), 1), ((2, 1), 2), ((1, 1, 1), 0)):
            for task in even_tasks(needs, spare):
                self.assertEqual(fewest_writes(task), fewest_searched(task, MANY), task)


if __name__ == "__main__":
    unittest.main()
