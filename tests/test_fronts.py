"""Promise [27], and what [7] says of the fewest stretches and of the writes within so many."""

import unittest

from tests.helpers import MANY, UNEVEN, even_tasks, fewest_searched, raised, told_by
from tests.test_groups import rings
from whilemoved.errors import NotEven
from whilemoved.fronts import fewest_stretches, front, writes_within
from whilemoved.writes import fewest_writes

SMALL = [
    task for needs, spare in (
        ((), 0), ((), 2), ((1,), 1), ((1, 1), 0), ((1, 1), 1), ((1, 1), 2), ((1, 1), 3), ((2, 1), 1), ((2, 1), 2),
        ((1, 1, 1), 0), ((1, 1, 1), 1), ((1, 1, 1), 2), ((2, 2), 1), ((1, 1, 1, 1), 0), ((1, 1, 1, 1), 1))
    for task in even_tasks(needs, spare)]
# Two parts and two open places: six places are many to search, so these are few.
WIDE = [
    ((1,) * 4, (0, 1, 2, 3, None, None), (1, 0, 3, 2, None, None)),
    ((2, 2), (0, 0, 1, 1, None, None), (1, 1, 0, 0, None, None)),
]


class Search(unittest.TestCase):
    def check(self, task):
        searched = [fewest_searched(task, k) for k in range(12)]
        self.assertEqual([writes_within(task, k) for k in range(12)], searched, task)
        ks = [k for k in range(12) if searched[k] is not None]
        self.assertEqual(fewest_stretches(task), ks[0] if ks else None, task)
        rows = [(k, searched[k]) for k in ks if k == ks[0] or searched[k] < searched[k - 1]]
        self.assertEqual(front(task), rows, task)
        self.assertEqual(writes_within(task, MANY), fewest_writes(task))

    def test_small_tasks(self):
        for task in SMALL:
            self.check(task)

    def test_six_places(self):
        for task in WIDE:
            self.check(task)


class Edges(unittest.TestCase):
    def test_nothing_wrong(self):
        for task in (rings((), 0), rings((), 3), ((2, 1), (0, None, 1, 0), (0, None, 1, 0))):
            self.assertEqual([writes_within(task, k) for k in (0, 1, 2, 60)], [0, 0, 0, 0])
            self.assertEqual(fewest_stretches(task), 0)
            self.assertEqual(front(task), [(0, 0)])

    def test_no_open_place(self):
        for task in (rings((2,), 0), rings((2, 3, 4), 0), ((2, 1), (0, 0, 1), (1, 0, 0))):
            self.assertEqual([writes_within(task, k) for k in (0, 1, 2, 60)], [None] * 4)
            self.assertIsNone(fewest_stretches(task))
            self.assertEqual(front(task), [])

    def test_one_part(self):
        self.assertEqual(front(rings((2,), 1)), [(3, 3)])
        self.assertEqual(front(rings((2,), 2)), [(2, 4), (3, 3)])
        self.assertEqual(front(rings((5,), 3)), [(3, 8), (4, 7), (6, 6)])
        self.assertEqual(front(rings((5,), 9)), [(2, 10), (3, 8), (4, 7), (6, 6)])
        self.assertEqual([writes_within(rings((5,), 3), k) for k in range(8)], [None] * 3 + [8, 7, 7, 6, 6])

    def test_several_parts(self):
        self.assertEqual(front(rings((2, 2), 1)), [(6, 6)])
        self.assertEqual(front(rings((2, 2), 2)), [(3, 6)])
        self.assertEqual(front(rings((2, 2), 4)), [(2, 8), (3, 6)])
        self.assertEqual(fewest_stretches(rings((2, 3, 4), 1)), 12)
        # Each group takes one open place at least: with two of them some of three parts have to share one.
        self.assertEqual(front(rings((2, 2, 2), 2)), [(5, 10), (6, 9)])

    def test_needs_above_one(self):
        task = ((2, 1, 1), (0, 0, 1, 2, None, None), (1, 2, 0, 0, None, None))
        self.assertEqual(front(task), [(3, 6), (5, 5)])

    def test_the_bounds(self):
        self.assertEqual(front(rings((2,) * 8, 1)), [(24, 24)])
        self.assertEqual(front(rings((2,) * 8, 8)), [(3, 24)])
        self.assertEqual(fewest_stretches(rings((16,), 1)), 17)
        self.assertEqual(front(rings((4, 4, 4), 4)), [(5, 15)])
        self.assertEqual(front(rings((4, 4, 4), 3)), [(5, 15)])
        self.assertEqual(front(rings((4, 4, 4), 2)), [(8, 16), (10, 15)])
        task = ((4, 4, 4), (0, 1, 2) * 4 + (None,) * 4, (1, 2, 0) * 4 + (None,) * 4)
        self.assertEqual(front(task), [(4, 16), (5, 15), (7, 14), (13, 13)])

    def test_new_lists(self):
        task = rings((2,), 2)
        front(task).clear()
        self.assertEqual(front(task), [(2, 4), (3, 3)])
        self.assertIsNot(front(task), front(task))
        front(rings((2,), 0)).append(None)
        self.assertEqual(front(rings((2,), 0)), [])


class Uneven(unittest.TestCase):
    def test_ahead_of_all_else(self):
        for task in UNEVEN:
            calls = [(writes_within, 0), (writes_within, 1), (writes_within, 9), (fewest_stretches,), (front,)]
            for call, *given in calls:
                self.assertEqual(told_by(raised(call, task, *given)), (NotEven, {}))


if __name__ == "__main__":
    unittest.main()
