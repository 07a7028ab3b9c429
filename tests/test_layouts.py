"""Promise [13], with the definitions of [2] that it uses."""

import itertools
import unittest

from tests.helpers import raised, told_by
from whilemoved.errors import CannotDo
from whilemoved.layouts import (
    can_be_done, does, free_places, led, led_by, open_places, places_of, rooms, standings, staying_places, writes_of,
    wrong_places,
)

TASK = ((1, 2), (0, 1, 1, None, 0), (1, 1, None, 0, 1))
PLAN = (((3, 0),), ((0, 1), (4, 2)))


class Standings(unittest.TestCase):
    def test_standings_and_rooms(self):
        self.assertEqual(standings((1, 2), (0, 1, 1, None)), (1, 2))
        self.assertEqual(standings((1, 2), (1, None, 1, 1)), (0, 3))
        self.assertEqual(rooms((1, 2), (0, 1, 1, None)), (0, 0))
        self.assertEqual(rooms((2, 1), (None, 1, 1, 1)), (-2, 2))
        self.assertEqual(rooms((1, 1, 4), ()), (-1, -1, -4))

    def test_no_values_or_no_places(self):
        self.assertEqual([standings((), ()), rooms((), ())], [(), ()])
        self.assertEqual([standings((), (None, None)), rooms((), (None,))], [(), ()])
        self.assertEqual([standings((3, 1), ()), rooms((3, 1), (None,))], [(0, 0), (-3, -1)])


class Places(unittest.TestCase):
    def test_what_places_are(self):
        self.assertEqual(wrong_places(TASK), (0, 3, 4))
        self.assertEqual(staying_places(TASK), (1,))
        self.assertEqual(free_places(TASK), (2,))
        self.assertEqual(open_places(TASK), (3,))

    def test_an_open_place_that_is_free_is_neither_wrong_nor_does_it_stay(self):
        task = ((1,), (None, 0), (None, 0))
        self.assertEqual([wrong_places(task), staying_places(task)], [(), (1,)])
        self.assertEqual([free_places(task), open_places(task)], [(0,), (0,)])

    def test_no_places(self):
        for call in (wrong_places, staying_places, free_places, open_places):
            self.assertEqual(call(((), (), ())), ())

    def test_each_place_is_wrong_or_stays_or_is_free(self):
        items = (None, 0, 1)
        for old in itertools.product(items, repeat=3):
            for wish in itertools.product(items, repeat=3):
                task = ((1, 1), old, wish)
                kinds = wrong_places(task) + staying_places(task) + free_places(task)
                self.assertEqual(sorted(kinds), [0, 1, 2])
                self.assertTrue(all(old[place] == wish[place] for place in staying_places(task)))
                self.assertTrue(all(old[place] != wish[place] for place in wrong_places(task)))


class Stretches(unittest.TestCase):
    def test_places_of(self):
        self.assertEqual(places_of(((0, 5), (2, 1), (7, 1))), (0, 2, 7))

    def test_can_be_done(self):
        layout = (0, None, 1)
        self.assertIs(can_be_done(layout, ((1, 0),)), True)
        self.assertIs(can_be_done(layout, ((0, 1),)), False)
        self.assertIs(can_be_done(layout, ((0, 2), (1, 2))), True)
        self.assertIs(can_be_done(layout, ((0, 2), (2, 1))), False)
        self.assertIs(can_be_done(layout + (None, 0), ((1, 0),)), True)

    def test_led(self):
        self.assertEqual(led((0, None, 1, 2), ((1, 0), (3, 2))), (0, 0, 1, 1))
        self.assertEqual(led((0, 1), ((0, 1),)), (1, 1))

    def test_led_changes_no_argument(self):
        layout, stretch = (0, None, 1), ((1, 0),)
        led(layout, stretch)
        self.assertEqual([layout, stretch], [(0, None, 1), ((1, 0),)])


class Plans(unittest.TestCase):
    def test_led_by(self):
        self.assertEqual(led_by(TASK[1], PLAN), (1, 1, 1, 0, 1))
        self.assertEqual(led_by(TASK[1], PLAN[:1]), (0, 1, 1, 0, 0))
        self.assertEqual(led_by(TASK[1], ()), TASK[1])
        self.assertEqual(led_by((), ()), ())

    def test_led_by_tells_the_first_stretch_that_cannot_be_done(self):
        bad = ((0, 3),)
        for index in range(3):
            plan = (((1, 0),),) * index + (bad, bad)
            self.assertEqual(told_by(raised(led_by, (0, 1, 1, None), plan)), (CannotDo, {"index": index}))

    def test_a_stretch_may_need_what_an_earlier_one_has_written(self):
        plan = (((1, 0),), ((2, 1),))
        self.assertEqual(led_by((0, None, None), plan), (0, 0, 0))
        self.assertEqual(raised(led_by, (0, None, None), plan[1:]).index, 0)

    def test_does(self):
        self.assertIs(does(TASK, PLAN), True)
        self.assertIs(does(TASK, PLAN[:1]), False)
        self.assertIs(does(TASK, ()), False)
        self.assertIs(does(TASK, (((0, 3),),) + PLAN), False)
        self.assertIs(does(TASK, PLAN + (((2, 3),),)), True)
        self.assertIs(does(TASK, PLAN + (((1, 3),),)), False)

    def test_a_plan_that_is_not_safe_does_a_task_too(self):
        self.assertIs(does(((1, 1), (0, 1), (0, 1)), (((0, 1),),)), False)
        self.assertIs(does(((1, 1), (0, 1, 1), (1, None, 0)), (((2, 0),), ((0, 1),))), True)
        self.assertIs(does(((1,), (0, None), (None, 0)), (((1, 0),), ((0, 1),))), True)

    def test_no_stretches(self):
        self.assertIs(does(((), (), ()), ()), True)
        self.assertIs(does(((), (None,), (None,)), ()), True)
        self.assertIs(does(((1,), (0, None), (None, 0)), ()), False)

    def test_writes_of(self):
        self.assertEqual(writes_of(()), 0)
        self.assertEqual(writes_of(PLAN), 3)
        self.assertEqual(writes_of(PLAN * 20), 60)


if __name__ == "__main__":
    unittest.main()
