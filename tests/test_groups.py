"""Promise [26]: groupings of the parts of even tasks."""

import unittest

from tests.helpers import UNEVEN, all_kinds, even_tasks, of_other_kinds, raised, told_by
from whilemoved.changes import beside, with_spare
from whilemoved.errors import NotEven, Nothing
from whilemoved.groups import best_grouping, fits_within, grouping_writes, is_grouping, places_taken
from whilemoved.layouts import wrong_places
from whilemoved.parts import is_even, parts_of


def ring(many):
    """A full task whose places are one part."""
    return ((1,) * many, tuple(range(many)), tuple(range(1, many)) + (0,))


def rings(sizes, spare):
    """The even task with a part of each of these sizes, and so many open places."""
    task = ((), (), ())
    for many in sizes:
        task = beside(task, ring(many))
    return with_spare(task, spare)


SIZES = [(), (2,), (2, 2), (2, 3), (5,), (2, 2, 2), (3, 2, 4), (2, 2, 3, 3), (4, 4, 4, 4), (3, 3, 3, 2, 2), (2,) * 6]
TASKS = [rings(sizes, spare) for sizes in SIZES for spare in range(5)]
PAIR, TWO = rings((2,), 2), rings((2, 2), 2)


def all_groupings(many):
    """All groupings of so many parts."""
    if many == 0:
        return [()]
    found = []
    for grouping in all_groupings(many - 1):
        found.append(grouping + ((many - 1,),))
        for at, group in enumerate(grouping):
            found.append(grouping[:at] + (group + (many - 1,),) + grouping[at + 1:])
    return found


def taken(task, group, k):
    """The least number t such that t times k - 1 is no less than m and c of the group together less 1."""
    parts = parts_of(task)
    needed = sum(len(parts[index]) for index in group) + len(group) - 1
    return next(t for t in range(needed + 1) if t * (k - 1) >= needed)


class Counts(unittest.TestCase):
    def test_examples(self):
        self.assertEqual([places_taken(TWO, (0, 1), k) for k in range(2, 8)], [5, 3, 2, 2, 1, 1])
        self.assertEqual([places_taken(TWO, (1,), k) for k in range(2, 6)], [2, 1, 1, 1])
        self.assertEqual(places_taken(rings((4, 2), 1), (0,), 3), 2)
        self.assertEqual(places_taken(rings((2, 4), 1), (0,), 3), 1)
        self.assertEqual([fits_within(TWO, ((0, 1),), k) for k in (2, 3, 4, 9)], [False, False, True, True])
        self.assertEqual([fits_within(TWO, ((0,), (1,)), k) for k in (2, 3)], [False, True])
        self.assertEqual([grouping_writes(TWO, ((0, 1),), k) for k in (2, 3, 4, 6)], [10, 8, 7, 6])
        self.assertEqual([grouping_writes(TWO, ((0,), (1,)), k) for k in (2, 3, 6)], [8, 6, 6])

    def test_nothing_wrong(self):
        for task in (rings((), 0), rings((), 3), ((2, 1), (0, None, 1, 0), (0, None, 1, 0))):
            for k in (2, 3, 99):
                self.assertIs(fits_within(task, (), k), True)
                self.assertEqual(grouping_writes(task, (), k), 0)
                self.assertEqual(best_grouping(task, k), ())

    def test_all_groupings(self):
        seen = {True: 0, False: 0}
        for task in TASKS:
            spare, least = task[2].count(None), len(wrong_places(task)) + len(parts_of(task))
            for grouping in all_groupings(len(parts_of(task)))[:60]:
                self.assertIs(is_grouping(task, grouping), True)
                for k in (2, 3, 4, 7, 30):
                    rows = [taken(task, group, k) for group in grouping]
                    self.assertEqual([places_taken(task, group, k) for group in grouping], rows)
                    self.assertIs(fits_within(task, grouping, k), sum(rows) <= spare)
                    self.assertEqual(grouping_writes(task, grouping, k), least + sum(rows) - len(rows))
                    seen[sum(rows) <= spare] += 1
        self.assertGreater(min(seen.values()), 300)

    def test_needs_above_one(self):
        task = ((2, 1, 1), (0, 0, 1, 2, None), (1, 2, 0, 0, None))
        self.assertEqual([places_taken(task, (0,), k) for k in (2, 3, 4, 5)], [4, 2, 2, 1])
        self.assertEqual([best_grouping(task, k) for k in (2, 4, 5)], [None, None, ((0,),)])


class IsGrouping(unittest.TestCase):
    def check(self, task, thing, truth):
        before = repr(thing)
        self.assertIs(is_grouping(task, thing), truth, thing)
        self.assertEqual(repr(thing), before)

    def test_examples(self):
        three = rings((2, 2, 3), 1)
        for thing in (((0, 1, 2),), ((0, 1), (2,)), ((0, 2), (1,)), ((0,), (1, 2)), ((0,), (1,), (2,))):
            self.check(three, thing, True)
        bad = [
            (), ((0, 1),), ((0,), (1,)), ((0, 1), (1, 2)), ((0,), (0, 1, 2)), ((0, 1, 2), (0, 1, 2)), ((1, 2), (0,)),
            ((0,), (2,), (1,)), ((0, 2, 1),), ((0, 1, 2), ()), ((), (0, 1, 2)), ((0, 1, 2, 3),), ((-1, 0, 1, 2),),
            ((0, 0, 1, 2),), (0, 1, 2), ((0, 1), 2), ((0,), (1,), (2,), (3,)),
        ]
        for thing in bad:
            self.check(three, thing, False)

    def test_nothing_wrong(self):
        for task in (rings((), 0), rings((), 2)):
            self.check(task, (), True)
            for thing in [thing for thing in all_kinds() if thing != ()] + [((),), ((0,),), [], {}]:
                self.check(task, thing, False)

    def test_any_value(self):
        for grouping in (((0, 1),), ((0,), (1,))):
            self.check(TWO, grouping, True)
            bad = [{(0,): 0, (1,): 1}, grouping + (None,), (grouping,), grouping + ((),), (Nothing(),), Nothing()]
            for thing in all_kinds() + of_other_kinds(grouping) + bad:
                self.check(TWO, thing, False)
        self.check(PAIR, ((0,),), True)
        self.check(PAIR, ((False,),), False)


class Best(unittest.TestCase):
    def test_of_all_groupings(self):
        seen = {True: 0, False: 0}
        for task in TASKS:
            groupings = all_groupings(len(parts_of(task)))
            for k in (2, 3, 4, 5, 6, 7, 9, 30):
                fitting = [grouping for grouping in groupings if fits_within(task, grouping, k)]
                best = best_grouping(task, k)
                seen[len(fitting) > 0] += 1
                if len(fitting) == 0:
                    self.assertIsNone(best)
                    continue
                self.assertIn(best, fitting)
                least = min(grouping_writes(task, grouping, k) for grouping in fitting)
                self.assertEqual(grouping_writes(task, best, k), least)
                self.assertEqual(best_grouping(task, k), best)
        self.assertGreater(min(seen.values()), 50)

    def test_more_parts_than_one_in_a_group(self):
        self.assertEqual(best_grouping(rings((2, 2, 2), 2), 3), None)
        self.assertEqual(best_grouping(rings((2, 2, 2), 1), 9), ((0, 1, 2),))
        self.assertEqual(best_grouping(rings((2, 2), 2), 3), ((0,), (1,)))
        self.assertEqual(best_grouping(rings((2, 4, 2), 2), 6), ((0, 2), (1,)))

    def test_not_the_first_one_that_fits_and_not_the_one_with_the_most_in_a_group(self):
        task = rings((2, 2, 3, 3), 3)
        self.assertIs(fits_within(task, ((0, 2, 3), (1,)), 6), True)
        self.assertEqual(grouping_writes(task, ((0, 2, 3), (1,)), 6), 15)
        self.assertEqual(grouping_writes(task, best_grouping(task, 6), 6), 14)

    def test_the_bounds(self):
        eight = rings((2,) * 8, 3)
        self.assertEqual(best_grouping(eight, 7), None)
        self.assertEqual(grouping_writes(eight, best_grouping(eight, 9), 9), 24)
        self.assertEqual(len(best_grouping(rings((2,) * 8, 8), 3)), 8)
        mixed = rings((2, 2, 2, 3, 3, 4), 2)
        self.assertIs(is_grouping(mixed, best_grouping(mixed, 11)), True)


class Uneven(unittest.TestCase):
    def test_ahead_of_all_else(self):
        for task in UNEVEN:
            self.assertIs(is_even(task), False)
            calls = [(places_taken, (0,), 2), (fits_within, ((0,),), 2), (fits_within, (), 2), (grouping_writes, (), 2)]
            calls.extend([(grouping_writes, ((0,),), 3), (best_grouping, 2), (best_grouping, 9)])
            calls.extend([(is_grouping, thing) for thing in (None, (), ((0,),), [])])
            for call, *given in calls:
                self.assertEqual(told_by(raised(call, task, *given)), (NotEven, {}))

    def test_all_even_tasks_are_taken(self):
        for task in even_tasks((2, 1), 1) + even_tasks((1, 1, 1), 2):
            self.assertIsNone(raised(best_grouping, task, 2))


if __name__ == "__main__":
    unittest.main()
