"""Promise [16], with the definitions of [2] that it uses."""

import itertools
import unittest

from tests.helpers import TASKS, raised, told_by
from whilemoved.errors import NotEven
from whilemoved.forms import is_task
from whilemoved.parts import (
    arrows_of, closed_parts, counts_of, is_even, open_parts, parts_of, places_with_room, rounds_of, spare_many,
    values_in,
)

def parts_by_the_definition(task):
    arrows = arrows_of(task)
    lots = [{arrow[2]} for arrow in arrows]
    for one, other in itertools.combinations(arrows, 2):
        ends = set(one[:2]) & set(other[:2])
        if ends - {None} or one[0] is None and other[0] is None:
            joined = [lot for lot in lots if one[2] in lot or other[2] in lot]
            lots = [lot for lot in lots if lot not in joined] + [set().union(*joined)]
    return sorted(tuple(sorted(lot)) for lot in lots)


def is_closed_by_the_definition(task, part):
    needs, old, wish = task
    for place in part:
        if old[place] is None:
            return False
        for value in (old[place], wish[place]):
            if old.count(value) > needs[value]:
                return False
    return True


class Arrows(unittest.TestCase):
    def test_arrows_with_places_ascending(self):
        task = ((1, 1), (1, 0, None, 0, None), (0, 0, 1, None, None))
        self.assertEqual(arrows_of(task), [(1, 0, 0), (None, 1, 2)])

    def test_nothing_wrong(self):
        for task in (((), (), ()), ((), (None,), (None,)), ((1,), (0, 0, None), (None, 0, None))):
            self.assertEqual([arrows_of(task), parts_of(task), closed_parts(task), open_parts(task)], [[], [], [], []])
            self.assertEqual(counts_of(task), (0, 0))


class Parts(unittest.TestCase):
    def test_all_small_tasks_fall_as_the_definition_tells(self):
        self.assertGreater(len(TASKS), 5000)
        for task in TASKS:
            self.assertTrue(is_task(task))
            parts = parts_by_the_definition(task)
            closed = [part for part in parts if is_closed_by_the_definition(task, part)]
            self.assertEqual(parts_of(task), parts, task)
            self.assertEqual(closed_parts(task), closed, task)
            self.assertEqual(open_parts(task), [part for part in parts if part not in closed], task)
            self.assertEqual(counts_of(task), (sum(len(part) for part in parts), len(closed)), task)

    def test_open_tails_hang_together(self):
        task = ((1, 1), (0, 1, None, None), (None, None, 0, 1))
        self.assertEqual(parts_of(task), [(2, 3)])

    def test_a_tail_hangs_together_with_a_tail_and_a_head_with_a_head(self):
        tails = ((1,) * 3, (0, 0, 0, 1, 2), (1, 2, 0, None, None))
        self.assertEqual(parts_of(tails), [(0, 1)])
        heads = ((1,) * 3, (0, 1, 2, 0, 1), (2, 2, None, 0, 1))
        self.assertEqual(parts_of(heads), [(0, 1)])

    def test_through_third_ones(self):
        task = ((1,) * 6, (0, 2, 4, 1, 3, 5), (1, 3, 5, 2, 4, 0))
        self.assertEqual(parts_of(task), [(0, 1, 2, 3, 4, 5)])
        late = ((1,) * 5, (0, 2, 1, 3, 4), (1, 3, 2, 0, 4))
        self.assertEqual(parts_of(late), [(0, 1, 2, 3)])

    def test_none_as_a_wish_or_what_stays_joins_nothing(self):
        task = ((1, 1, 1), (0, 1, 2, 2, None), (1, 0, 2, None, None))
        self.assertEqual([parts_of(task), closed_parts(task)], [[(0, 1)], [(0, 1)]])

    def test_a_value_with_room_opens_a_part(self):
        swap = ((1, 1), (0, 1), (1, 0))
        self.assertEqual([closed_parts(swap), open_parts(swap)], [[(0, 1)], []])
        head = ((1, 1), (0, 1, 0), (1, 0, None))
        self.assertEqual([closed_parts(head), open_parts(head)], [[], [(0, 1)]])
        more = ((2, 1), (0, 1, 0), (1, 0, 0))
        self.assertEqual(closed_parts(more), [(0, 1)])

    def test_parts_are_new_lists(self):
        task = ((1, 1), (0, 1), (1, 0))
        for call in (arrows_of, parts_of, closed_parts):
            told = call(task)
            call(task).append(None)
            call(task).clear()
            self.assertEqual(call(task), told)
            self.assertIsNot(call(task), call(task))
        open_parts(task).append(None)
        self.assertEqual(open_parts(task), [])


class Values(unittest.TestCase):
    def test_values_in(self):
        task = ((1,) * 4, (0, 3, 2, 1, None), (3, 0, 2, 1, 1))
        self.assertEqual(values_in(task, (0, 1)), (0, 3))
        self.assertEqual(values_in(task, (4,)), (1,))
        self.assertEqual(values_in(task, ()), ())

    def test_places_with_room(self):
        self.assertEqual(places_with_room(((1, 2), (0, 1, 1, None), (0, 1, 1, None))), (3,))
        self.assertEqual(places_with_room(((1, 2), (0, 1, 1, 0), (0, 1, 1, 0))), (0, 3))
        self.assertEqual(places_with_room(((1, 1), (0, 1), (1, 0))), ())
        self.assertEqual(places_with_room(((), (), ())), ())
        self.assertEqual(places_with_room(((), (None, None), (None, None))), (0, 1))


class Even(unittest.TestCase):
    def test_all_small_tasks(self):
        evens = 0
        for task in TASKS:
            needs, old, wish = task
            tight = all(row.count(value) == need for row in (old, wish) for value, need in enumerate(needs))
            same = all((one is None) == (other is None) for one, other in zip(old, wish))
            self.assertIs(is_even(task), tight and same, task)
            if tight and same:
                evens += 1
                self.assertEqual(spare_many(task), wish.count(None))
                self.assertEqual(open_parts(task), [])
            else:
                self.assertEqual(told_by(raised(spare_many, task)), (NotEven, {}))
        self.assertGreater(evens, 50)

    def test_each_reason(self):
        self.assertIs(is_even(((1, 1), (0, 1, None), (1, 0, None))), True)
        self.assertIs(is_even(((1, 1), (0, 1, 1), (1, 0, None))), False)
        self.assertIs(is_even(((1, 1), (0, 1, None), (1, 0, 0))), False)
        self.assertIs(is_even(((1, 1), (0, 1, None), (1, None, 0))), False)
        self.assertIs(is_even(((), (), ())), True)


class Rounds(unittest.TestCase):
    def check(self, task, part):
        old, wish = task[1], task[2]
        for row in itertools.permutations(part):
            if all(wish[row[at - 1]] == old[row[at]] for at in range(len(row))):
                self.assertEqual(rounds_of(task, part), row, task)
                return
        self.fail("no round")

    def test_small_tasks(self):
        seen = 0
        for task in TASKS:
            for part in closed_parts(task):
                self.check(task, part)
                seen += 1
        self.assertGreater(seen, 300)

    def test_values_that_are_met_several_times(self):
        seen = 0
        for needs, old in (((3, 2, 1), (0, 0, 0, 1, 1, 2)), ((2, 2, 2), (0, 1, 2, 0, 1, 2)), ((3, 3), (0, 1) * 3)):
            for wish in sorted(set(itertools.permutations(old))):
                task = (needs, old, wish)
                for part in closed_parts(task):
                    self.check(task, part)
                    seen = max(seen, len(part))
        self.assertEqual(seen, 6)

    def test_the_least_place_that_closes_too_early_is_not_taken(self):
        task = ((2, 1, 1), (0, 1, 0, 2), (1, 0, 2, 0))
        self.assertEqual(rounds_of(task, (0, 1, 2, 3)), (0, 1, 2, 3))
        # From place 0 on place 1 would be the next least one, but it leads back with places left behind.
        early = ((1, 2, 1), (0, 1, 1, 2), (1, 0, 2, 1))
        self.assertEqual(rounds_of(early, (0, 1, 2, 3)), (0, 2, 3, 1))

    def test_a_long_round(self):
        many = 16
        task = ((1,) * many, tuple(range(many)), tuple(range(1, many)) + (0,))
        self.assertEqual(rounds_of(task, tuple(range(many))), tuple(range(many)))


if __name__ == "__main__":
    unittest.main()
