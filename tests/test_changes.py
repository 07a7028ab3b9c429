"""Promise [17]."""

import unittest

from tests.helpers import TASKS
from whilemoved.changes import beside, renamed, turned, with_spare, without_part
from whilemoved.forms import is_task
from whilemoved.layouts import free_places, open_places
from whilemoved.parts import closed_parts, counts_of

TASK = ((2, 1, 1), (0, 0, 1, 2, None), (1, 2, 0, 0, None))


class Renamed(unittest.TestCase):
    def test_values_and_places(self):
        self.assertEqual(
            renamed(TASK, (2, 0, 1), (0, 1, 2, 3, 4)), ((1, 2, 1), (1, 1, 2, 0, None), (2, 0, 1, 1, None)))
        self.assertEqual(
            renamed(TASK, (0, 1, 2), (4, 2, 0, 1, 3)), ((2, 1, 1), (None, 1, 0, 0, 2), (None, 0, 1, 2, 0)))

    def test_there_and_back(self):
        told = renamed(TASK, (1, 2, 0), (3, 0, 4, 1, 2))
        self.assertEqual(renamed(told, (2, 0, 1), (1, 3, 4, 0, 2)), TASK)

    def test_nothing_to_rename(self):
        self.assertEqual(renamed(((), (), ()), (), ()), ((), (), ()))
        self.assertEqual(renamed(((), (None,), (None,)), (), (0,)), ((), (None,), (None,)))

    def test_the_counts_stay(self):
        for task in TASKS[::7]:
            values = tuple(reversed(range(len(task[0]))))
            places = tuple(reversed(range(len(task[1]))))
            told = renamed(task, values, places)
            self.assertTrue(is_task(told))
            self.assertEqual(counts_of(told), counts_of(task))


class Beside(unittest.TestCase):
    def test_values_and_places_behind_those_of_the_other(self):
        self.assertEqual(
            beside(((1,), (0, None), (None, 0)), TASK),
            ((1, 2, 1, 1), (0, None, 1, 1, 2, 3, None), (None, 0, 2, 3, 1, 1, None)))

    def test_beside_nothing(self):
        nothing = ((), (), ())
        self.assertEqual([beside(nothing, TASK), beside(TASK, nothing)], [TASK, TASK])

    def test_closed_parts_are_added(self):
        tasks = [task for task in TASKS if counts_of(task)[1] > 0][::15]
        for one in tasks:
            for other in tasks:
                told = beside(one, other)
                self.assertTrue(is_task(told))
                sums = tuple(sum(pair) for pair in zip(counts_of(one), counts_of(other)))
                self.assertEqual(counts_of(told), sums)


class Turned(unittest.TestCase):
    def test_old_and_wish_are_exchanged(self):
        task = ((1, 1), (0, 1, 1, None), (1, 0, None, 1))
        self.assertEqual(turned(task), ((1, 1), (1, 0, None, 1), (0, 1, 1, None)))
        for task in TASKS[::11]:
            self.assertTrue(is_task(turned(task)))
            self.assertEqual(turned(turned(task)), task)
            self.assertEqual(open_places(turned(task)), free_places(task))


class Spare(unittest.TestCase):
    def test_places_behind_all_others(self):
        self.assertEqual(with_spare(((1,), (0,), (0,)), 2), ((1,), (0, None, None), (0, None, None)))
        self.assertEqual(with_spare(TASK, 0), TASK)
        self.assertEqual(with_spare(((), (), ()), 1), ((), (None,), (None,)))

    def test_the_counts_stay(self):
        for task in TASKS[::7]:
            self.assertEqual(counts_of(with_spare(task, 3)), counts_of(task))


class WithoutPart(unittest.TestCase):
    def test_one_of_two(self):
        task = ((1,) * 5, (0, 1, 2, 3, None, 4, 4), (2, 3, 0, 1, None, None, 4))
        self.assertEqual(without_part(task, 0)[2], (0, 3, 2, 1, None, None, 4))
        self.assertEqual(without_part(task, 1)[2], (2, 1, 0, 3, None, None, 4))

    def test_the_counts(self):
        seen = 0
        for task in TASKS:
            many, closed = counts_of(task)
            for index, part in enumerate(closed_parts(task)):
                told = without_part(task, index)
                self.assertEqual([told[0], told[1]], [task[0], task[1]])
                self.assertEqual(counts_of(told), (many - len(part), closed - 1))
                self.assertEqual([item for at, item in enumerate(told[2]) if at not in part],
                                 [item for at, item in enumerate(task[2]) if at not in part])
                seen += 1
        self.assertGreater(seen, 300)


if __name__ == "__main__":
    unittest.main()
