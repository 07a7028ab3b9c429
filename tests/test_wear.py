"""Promise [41], and what [10] says of wear and sizes."""

import random
import unittest

from tests.helpers import TASKS, WIDE_PIECES, composed, even_tasks, fitting, single_writes
from tests.test_writes import STAYS, SWAP
from whilemoved.changes import beside, with_spare
from whilemoved.judge import is_safe_plan
from whilemoved.layouts import free_places, wrong_places
from whilemoved.parts import closed_parts, values_in
from whilemoved.wear import can_come, even_plan, fits, lacking_size, least_wear, wear_of
from whilemoved.writes import has_plan


def can_be_come_to(task, step):
    """Whether the wish can be come to by safe copies, all of them being gone through.

    step tells from a state, a place that is written, and the layout behind, the next state, None if there is none.
    """
    needs, old, wish = task
    seen, ahead = {(old, ())}, [(old, ())]
    while ahead:
        layout, told = ahead.pop()
        if fitting(wish, layout):
            return True
        for place, after in single_writes(needs, layout):
            more = step(told, place, after)
            if more is not None and (after, more) not in seen:
                seen.add((after, more))
                ahead.append((after, more))
    return False


def once(told, place, after):
    return None if place in told else tuple(sorted(told + (place,)))


class Wear(unittest.TestCase):
    def check(self, task):
        least, plan = least_wear(task), even_plan(task)
        if not has_plan(task):
            self.assertEqual([least, plan], [None, None], task)
            return None
        closed = len(closed_parts(task))
        wanted = 0 if not wrong_places(task) else 1 if closed <= len(free_places(task)) else 2
        self.assertEqual(least, wanted, task)
        self.assertIs(is_safe_plan(task, plan), True, (task, plan))
        written = [place for stretch in plan for place, _ in stretch]
        self.assertEqual(max([written.count(place) for place in written], default=0), least, (task, plan))
        self.assertEqual(wear_of(plan), least)
        self.assertEqual(even_plan(task), plan)
        return least

    def check_searched(self, task):
        least = self.check(task)
        if least is not None and least > 0:
            self.assertEqual(least == 1, can_be_come_to(task, once), task)
        return least

    def test_all_small_tasks(self):
        seen = {}
        for task in TASKS[::4] + [task for task in TASKS if closed_parts(task)]:
            least = self.check_searched(task)
            seen[least] = seen.get(least, 0) + 1
        self.assertGreater(min(seen[least] for least in (None, 0, 1, 2)), 20)

    def test_even_tasks(self):
        for needs, spare in (((1, 1, 1, 1), 1), ((2, 2), 1), ((2, 1), 2), ((1, 1, 1), 2)):
            for task in even_tasks(needs, spare):
                self.check_searched(task)

    def test_composed_tasks(self):
        for task in composed(1, 100, [SWAP] + WIDE_PIECES, 6, 5):
            self.check_searched(task)
        for task in composed(2, 400, [SWAP] + WIDE_PIECES, 16, 12):
            self.check(task)

    def test_as_many_free_places_as_closed_parts(self):
        three = beside(beside(SWAP, SWAP), SWAP)
        self.assertEqual([self.check(with_spare(three, many)) for many in range(5)], [None, 2, 2, 1, 1])
        self.assertEqual(self.check(beside(three, ((1,), (0, 0), (0, None)))), 2)
        self.assertEqual(self.check(beside(SWAP, ((1,), (0, 0), (0, None)))), 1)

    def test_room_only_at_places_that_stay(self):
        self.assertEqual(self.check(STAYS), 2)
        self.assertEqual(self.check(beside(beside(STAYS, SWAP), SWAP)), 2)

    def test_room_only_in_an_open_part(self):
        chain = ((1, 1), (0, 0, 1), (1, 0, 1))
        self.assertEqual([self.check(chain), self.check(beside(chain, SWAP))], [1, 2])

    def test_a_free_place_without_room(self):
        moved = ((1, 1), (0, 1, None), (None, 1, 0))
        self.assertEqual([self.check(beside(moved, SWAP)), self.check(beside(moved, beside(SWAP, SWAP)))], [1, 2])

    def test_edges(self):
        for task in (((), (), ()), ((), (None,), (None,)), ((1,), (0, 0), (0, None))):
            self.assertEqual([least_wear(task), even_plan(task)], [0, ()])
        self.assertEqual([least_wear(SWAP), even_plan(SWAP)], [None, None])

    def test_wear_of(self):
        self.assertEqual(wear_of(()), 0)
        self.assertEqual(wear_of((((0, 2), (1, 2)), ((2, 0),))), 1)
        self.assertEqual(wear_of((((0, 2), (1, 2)), ((2, 0),), ((0, 2),), ((1, 2),), ((0, 1),))), 3)

    def test_the_bounds(self):
        pairs = (1, 0, 3, 2, 5, 4, 7, 6, 9, 8, 11, 10)
        for spare, least in ((1, 2), (4, 2)):
            task = ((1,) * 12, tuple(range(12)) + (None,) * spare, pairs + (None,) * spare)
            self.assertEqual(self.check(task), least)
        self.assertEqual(self.check(((4, 4, 4), (0, 1, 2) * 4 + (None,) * 4, (1, 2, 0) * 4 + (None,) * 4)), 1)


class Sizes(unittest.TestCase):
    def check(self, task, sizes):
        """That what is lacking is the first size of the first part, and is told by counting."""
        values, places = sizes
        wanted = None
        for index, part in enumerate(closed_parts(task)):
            for size in range(1, min(values[value] for value in values_in(task, part)) + 1):
                room = len([place for place in places if place >= size])
                needed = sum(need for need, value in zip(task[0], values) if value >= size)
                if room <= needed and wanted is None:
                    wanted = (index, size)
        self.assertEqual(lacking_size(task, sizes), wanted, (task, sizes))
        self.assertIs(can_come(task, sizes), wanted is None)
        return wanted

    def check_searched(self, task, sizes):
        lacking = self.check(task, sizes)
        come = can_be_come_to(task, lambda told, place, after: () if fits(sizes, after) else None)
        self.assertEqual(lacking is None, come, (task, sizes))
        return lacking

    def sized(self, chance, task, most):
        """Sizes by which old and wish just fit, and some more of them."""
        needs, old, wish = task
        values = tuple(chance.randint(1, most) for _ in needs)
        places = []
        for place in range(len(old)):
            least = max([values[item] for item in (old[place], wish[place]) if item is not None], default=1)
            places.append(chance.choice((least, least, least, chance.randint(least, most))))
        sizes = (values, tuple(places))
        self.assertIs(fits(sizes, old) and fits(sizes, wish), True)
        return sizes

    def test_small_tasks(self):
        chance, seen = random.Random(1), {}
        tasks = [task for task in TASKS if closed_parts(task)] + TASKS[::11]
        for task in tasks + composed(2, 300, [SWAP] * 3 + WIDE_PIECES, 6, 5):
            lacking = self.check_searched(task, self.sized(chance, task, chance.choice((2, 3, 4))))
            key = lacking and min(lacking[1], 3)
            seen[key] = seen.get(key, 0) + 1
        self.assertGreater(min(seen[key] for key in (None, 1, 2, 3)), 10)

    def test_large_tasks(self):
        chance, later = random.Random(3), 0
        for task in composed(4, 700, [SWAP] * 12 + [((), (None,), (None,))] * 3 + WIDE_PIECES, 16, 12):
            lacking = self.check(task, self.sized(chance, task, chance.choice((2, 5, 1000))))
            later += lacking is not None and lacking[0] > 0
        self.assertGreater(later, 2)

    def test_just_enough_and_just_not_enough(self):
        task = with_spare(SWAP, 1)
        for size in (1, 2, 500, 1000):
            self.assertIsNone(lacking_size(task, ((size, size), (size, size, size))))
            self.assertIsNone(lacking_size(task, ((size, 1), (size, size, 1))))
            if size > 1:
                self.assertEqual(lacking_size(task, ((size, size), (size, size, 1))), (0, 2))
                self.assertEqual(lacking_size(task, ((size, size), (size, size, size - 1))), (0, size))

    def test_the_needs_of_larger_values_count(self):
        task = with_spare(beside(SWAP, ((2,), (0, 0), (0, 0))), 1)
        self.assertEqual(lacking_size(task, ((2, 2, 5), (2, 2, 5, 5, 1))), (0, 2))
        self.assertIsNone(lacking_size(task, ((2, 2, 5), (2, 2, 5, 5, 2))))
        self.assertIsNone(lacking_size(task, ((2, 2, 1), (2, 2, 2, 1, 1))))

    def test_no_room(self):
        self.assertEqual(lacking_size(SWAP, ((3, 4), (4, 4))), (0, 1))
        self.assertIs(can_come(SWAP, ((3, 4), (4, 4))), False)

    def test_a_later_part(self):
        task = with_spare(beside(SWAP, SWAP), 1)
        self.assertEqual(lacking_size(task, ((1, 1, 2, 2), (1, 1, 2, 2, 1))), (1, 2))
        self.assertEqual(lacking_size(task, ((2, 2, 1, 1), (2, 2, 1, 1, 1))), (0, 2))
        self.assertIsNone(lacking_size(task, ((1, 3, 2, 2), (3, 3, 2, 2, 1))))

    def test_nothing_wrong_and_open_parts(self):
        self.assertIsNone(lacking_size(((), (), ()), ((), ())))
        self.assertIsNone(lacking_size(((1,), (0,), (0,)), ((9,), (9,))))
        self.assertIsNone(lacking_size(((1,), (0, None), (None, 0)), ((9,), (9, 9))))

    def test_fits(self):
        sizes = ((2, 1, 1000), (2, 1, 1000))
        for layout, told in (
                ((0, 1, 2), True), ((1, 0, 2), False), ((None, None, 0), True), ((2, 1, 0), False),
                ((None, 1, 2), True)):
            self.assertIs(fits(sizes, layout), told, layout)
        self.assertIs(fits(((), ()), ()), True)
        self.assertIs(fits(((), (1,)), (None,)), True)


if __name__ == "__main__":
    unittest.main()
