"""Promise [43]."""

import unittest

from tests.helpers import PIECES, TASKS, WIDE_PIECES, composed, fewest_searched, safe_plans, MANY
from tests.test_writes import STAYS, SWAP
from whilemoved.changes import beside, with_spare
from whilemoved.fewest import fewest_plan
from whilemoved.forms import is_plan, is_task
from whilemoved.fromhere import back_plan, layout_at, lost_amid, lost_task, places_to_spare, task_from, writes_left
from whilemoved.judge import first_unsafe, is_safe_plan
from whilemoved.layouts import led, led_by, places_of
from whilemoved.sides import short_plan
from whilemoved.wear import even_plan
from whilemoved.writes import fewest_writes, has_plan

TASK = ((1, 1), (0, 1, None), (1, 0, None))
PLAN = (((2, 0),), ((0, 1),), ((1, 2),))


def plans_of(task):
    return [plan for plan in (fewest_plan(task), short_plan(task), even_plan(task)) if plan is not None]


# Tasks with safe plans of narrow and wide stretches, also such as write places in vain.
SMALL = [(task, plan) for task in TASKS[::101] for plan in safe_plans(task, 3)[:25]]
SMALL.extend([(STAYS, plan) for plan in safe_plans(STAYS, 4)[::3]])
WIDE = [(task, plan) for task in composed(1, 120, PIECES + WIDE_PIECES, 16, 12) for plan in plans_of(task)]


def back_by_the_definition(task, plan, index):
    layouts = [task[1]]
    for stretch in plan[:index]:
        layouts.append(led(layouts[-1], stretch))
    layout, found = layouts[-1], []
    for at in range(index - 1, -1, -1):
        places = places_of(plan[at])
        stretch = []
        for place in places:
            wanted = layouts[at][place]
            if wanted is not None:
                sources = [source for source, item in enumerate(layout) if item == wanted and source not in places]
                stretch.append((place, min(sources)))
        if stretch:
            found.append(tuple(stretch))
            layout = led(layout, tuple(stretch))
    return tuple(found)


def without(layout, lost):
    return tuple(item for place, item in enumerate(layout) if place != lost)


class Along(unittest.TestCase):
    def test_layouts_and_tasks(self):
        for task, plan in SMALL + WIDE:
            for index in range(len(plan) + 1):
                layout = led_by(task[1], plan[:index])
                self.assertEqual(layout_at(task, plan, index), layout)
                self.assertEqual(task_from(task, plan, index), (task[0], layout, task[2]))
                self.assertIs(is_task(task_from(task, plan, index)), True)

    def test_plans_that_are_not_safe_or_cannot_be_done_later(self):
        plan = (((0, 1),), ((2, 0),), ((1, 3),))
        task = ((1, 1), (0, 1, None, None), (0, 1, None, None))
        layouts = [(0, 1, None, None), (1, 1, None, None), (1, 1, 1, None)]
        self.assertEqual([layout_at(task, plan, index) for index in range(3)], layouts)
        self.assertEqual(layout_at(task, plan[:2], 2), layouts[2])

    def test_writes_left(self):
        for task, plan in SMALL + WIDE:
            told = writes_left(task, plan)
            wanted = tuple(fewest_writes(task_from(task, plan, index)) for index in range(len(plan) + 1))
            self.assertEqual(told, wanted)
            self.assertIs(type(told), tuple)
            self.assertEqual(told[-1], 0)
            for index, stretch in enumerate(plan):
                self.assertLessEqual(told[index] - told[index + 1], len(stretch))

    def test_writes_left_searched(self):
        for task, plan in SMALL[::7]:
            wanted = [fewest_searched(task_from(task, plan, index), MANY) for index in range(len(plan) + 1)]
            self.assertEqual(writes_left(task, plan), tuple(wanted))

    def test_edges(self):
        self.assertEqual([writes_left(((), (), ()), ()), layout_at(((), (), ()), (), 0)], [(0,), ()])
        self.assertEqual(writes_left(TASK, PLAN), (3, 2, 1, 0))
        self.assertEqual(task_from(TASK, PLAN, 0), TASK)
        self.assertEqual(task_from(TASK, PLAN, 3), ((1, 1), (1, 0, 0), (1, 0, None)))


class Back(unittest.TestCase):
    def test_by_the_definition(self):
        left_out, lesser = 0, 0
        for task, plan in SMALL + WIDE:
            for index in range(len(plan) + 1):
                start = layout_at(task, plan, index)
                back = back_plan(task, plan, index)
                self.assertEqual(back, back_by_the_definition(task, plan, index), (task, plan, index))
                self.assertIs(is_plan(len(task[1]), back), True)
                self.assertIsNone(first_unsafe((task[0], start, task[1]), back))
                self.assertIs(is_safe_plan((task[0], start, task[1]), back), True)
                left_out += len(back) < index
                lesser += sum(map(len, back)) < sum(map(len, plan[:index]))
        self.assertGreater(min(left_out, lesser), 20)

    def test_the_index_is_asked_alone(self):
        for index in range(4):
            self.assertEqual(back_plan(TASK, PLAN[:index], index), back_plan(TASK, PLAN, index))

    def test_what_was_written_where_it_was_open_may_be_a_source(self):
        # Behind both stretches value 0 stands at place 0, too, which was open at first.
        task = ((1, 1), (None, 0, 1, 0), (0, 1, None, None))
        plan = (((1, 2),), ((0, 3),))
        self.assertEqual([back_plan(task, plan, 2), back_plan(task, plan, 1)], [(((1, 0),),), (((1, 3),),)])

    def test_no_place_of_the_stretch_is_a_source(self):
        # Place 0 gets value 1, place 2 value 0. On the way back place 2, which was open, is no source for place 0.
        task = ((1, 1), (0, 1, None, 0), (1, None, 0, None))
        plan = (((0, 1), (2, 3)),)
        self.assertEqual(back_plan(task, plan, 1), (((0, 3),),))

    def test_edges(self):
        for task, plan in ((((), (), ()), ()), (TASK, PLAN), (TASK, PLAN[:0])):
            self.assertEqual(back_plan(task, plan, 0), ())
        self.assertEqual(back_plan(TASK, PLAN, 2), (((0, 2),),))


class Lost(unittest.TestCase):
    def test_by_the_definition(self):
        seen = {True: 0, False: 0}
        for task in TASKS[::17] + [task for task, plan in WIDE]:
            spared = []
            for place in range(len(task[1])):
                left = (task[0], without(task[1], place), without(task[2], place))
                there = all(
                    row.count(value) >= need for row in left[1:] for value, need in enumerate(task[0]))
                self.assertEqual(lost_task(task, place), left if there else None)
                seen[there] += 1
                if there:
                    spared.append(place)
                    self.assertIs(is_task(lost_task(task, place)), True)
            self.assertEqual(places_to_spare(task), tuple(spared))
        self.assertGreater(min(seen.values()), 200)

    def test_lost_amid(self):
        less = 0
        for task, plan in SMALL + WIDE:
            for index in range(len(plan) + 1):
                left = task_from(task, plan, index)
                wanted = [place for place in places_to_spare(left) if has_plan(lost_task(left, place))]
                self.assertEqual(lost_amid(task, plan, index), tuple(wanted))
                less += tuple(wanted) != places_to_spare(left)
        self.assertGreater(less, 20)

    def test_edges(self):
        self.assertEqual([places_to_spare(((), (), ())), lost_amid(((), (), ()), (), 0)], [(), ()])
        open_places = ((), (None, None), (None, None))
        self.assertEqual([lost_task(open_places, 1), places_to_spare(open_places)], [((), (None,), (None,)), (0, 1)])
        # Without the open place there is no safe plan; with one more there is.
        self.assertEqual([places_to_spare(TASK), lost_amid(TASK, PLAN, 0)], [(2,), ()])
        task = with_spare(SWAP, 2)
        self.assertEqual([places_to_spare(task), lost_amid(task, (), 0)], [(2, 3), (2, 3)])
        # Only the wish is not right without place 1, only the layout without place 0.
        task = ((1,), (0, None), (None, 0))
        self.assertEqual([lost_task(task, 0), lost_task(task, 1), places_to_spare(task)], [None, None, ()])
        wide = beside(task, ((1,), (0, 0), (0, 0)))
        self.assertEqual(places_to_spare(wide), (2, 3))
        self.assertEqual(lost_task(wide, 2), ((1, 1), (0, None, 1), (None, 0, 1)))


if __name__ == "__main__":
    unittest.main()
