"""Promise [12], and what [3] says of truths."""

import itertools
import unittest

from tests.helpers import all_kinds, of_other_kinds
from whilemoved.forms import is_integer, is_layout, is_lot, is_needs, is_plan, is_right, is_stretch, is_task

TASKS = [
    ((), (), ()),
    ((), (None,), (None,)),
    ((1,), (0,), (0,)),
    ((1, 1), (0, 1, None), (1, 0, None)),
    ((2, 1), (0, 0, 1, 1), (1, None, 0, 0)),
    ((1,) * 40, tuple(range(40)), tuple(range(39, -1, -1))),
]
STRETCHES = [((0, 1),), ((1, 0),), ((0, 2), (3, 2)), ((0, 1), (2, 1), (3, 4)), ((39, 0),)]


class Forms(unittest.TestCase):
    def check(self, call, given, right, wrong):
        """That a call tells just of each thing in right that it is so, and leaves all of them as they were."""
        for things, truth in ((right, True), (wrong, False)):
            for thing in things:
                before = repr(thing)
                self.assertIs(call(*given, thing), truth, (given, thing))
                self.assertEqual(repr(thing), before)

    def test_integers(self):
        right = [0, 1, -1, 7, 10 ** 39, -(10 ** 39)]
        wrong = [None, True, False, "0", "", [], (), {}, (0,), [0], {0: 0}]
        self.check(is_integer, (), right, wrong)

    def test_needs(self):
        right = [(), (1,), (1, 1), (4, 3, 2, 1), (1,) * 50, (10 ** 39,)]
        wrong = [(0,), (1, 0), (-1,), (1, None), None, 1, "1", "11", (1, (1,))] + all_kinds_but_tuple()
        self.check(is_needs, (), right, wrong)
        for needs in right:
            self.check(is_needs, (), [], of_other_kinds(needs))

    def test_layouts(self):
        needs = (1, 2)
        right = [(), (None,), (0,), (1,), (0, 1, 1, None), (None,) * 30, (0,) * 30]
        wrong = [(2,), (-1,), (0, 2), ("?",), (True,), (False,), (None, True), ((0,),), 0, None] + all_kinds_but_tuple()
        self.check(is_layout, (needs,), right, wrong)
        self.check(is_layout, ((),), [(), (None,)], [(0,), (None, 0)])
        for layout in right:
            self.check(is_layout, (needs,), [], of_other_kinds(layout))

    def test_right_layouts(self):
        needs = (1, 2)
        right = [(0, 1, 1), (1, 1, 0, None), (1, 0, 1, 1, 0), (None, 1, None, 0, 1)]
        wrong = [(), (0, 1), (1, 1), (None, None), (0, 0, 0), (0, 1, True), (0, 1, 1, 2), [0, 1, 1]]
        self.check(is_right, (needs,), right, wrong + all_kinds_but_tuple())
        self.check(is_right, ((),), [(), (None, None)], [(0,)])
        for layout in right:
            self.check(is_right, (needs,), [], of_other_kinds(layout))

    def test_tasks(self):
        wrong = [
            (), ((), ()), ((), (), (), ()), ((1,), (), ()), ((1,), (0,), (0, 0)), ((1,), (0, None), (0,)),
            ((1,), (None,), (0,)), ((1,), (0,), (None,)), ((0,), (0,), (0,)), ((1,), (1,), (1,)),
            ((2,), (0,), (0,)), ((1,), (0, 1), (0, 1)), ((True,), (0,), (0,)), (1, 2, 3), "abc", (None, (), ()),
            ((1,), None, (0,)), ((1,), (0,), None), ((1,), "0", (0,)), {0: (), 1: (), 2: ()}, ("", "", ""),
        ]
        self.check(is_task, (), TASKS, wrong + all_kinds())
        for task in TASKS:
            self.check(is_task, (), [], of_other_kinds(task))

    def test_lots(self):
        right = [(), (0,), (4,), (0, 1, 2, 3, 4), (1, 3)]
        wrong = [(5,), (-1,), (1, 0), (0, 0), (0, 1, 1), (0, 5), (False,), (0, True), ("0",), ((0,),), (None,)]
        self.check(is_lot, (5,), right, wrong + all_kinds_but_tuple())
        self.check(is_lot, (0,), [()], [(0,)])
        for lot in right:
            self.check(is_lot, (5,), [], of_other_kinds(lot))

    def test_lots_are_just_the_ascending_choices(self):
        for size in range(4):
            for thing in itertools.product(range(-1, 4), repeat=size):
                truth = list(thing) == sorted(set(thing)) and all(0 <= item < 3 for item in thing)
                self.assertIs(is_lot(3, thing), truth, thing)

    def test_stretches(self):
        wrong = [
            (), ((0, 0),), ((0, 1), (0, 2)), ((0, 1), (0, 1)), ((2, 1), (0, 1)), ((0, 1), (1, 2)), ((1, 2), (2, 0)),
            ((0, 40),), ((40, 0),), ((-1, 0),), ((0, -1),), ((0,),), ((0, 1, 2),), (0, 1), ((0, None),), ((None, 0),),
            (((0, 1),),), ("01",), ((0, (1,)),), ((0, 1), None), 0, None,
        ]
        self.check(is_stretch, (40,), STRETCHES, wrong + all_kinds_but_stretches())
        self.check(is_stretch, (2,), STRETCHES[:2], STRETCHES[2:])
        self.check(is_stretch, (0,), [], STRETCHES)
        for stretch in STRETCHES:
            self.check(is_stretch, (40,), [], of_other_kinds(stretch))

    def test_stretches_are_just_those_that_the_definition_tells(self):
        pairs = list(itertools.product(range(4), repeat=2))
        for size in range(4):
            for thing in itertools.product(pairs, repeat=size):
                places, sources = [pair[0] for pair in thing], [pair[1] for pair in thing]
                truth = size > 0 and places == sorted(set(places)) and not set(places) & set(sources)
                self.assertIs(is_stretch(4, thing), truth and max(places + sources) < 4, thing)

    def test_plans(self):
        right = [(), (STRETCHES[0],), tuple(STRETCHES), (STRETCHES[1],) * 70]
        wrong = [((),), (STRETCHES[0], ()), STRETCHES[0], (STRETCHES[0], None), (((0, 0),),), (((0, 40),),), None, 0]
        self.check(is_plan, (40,), right, wrong + all_kinds_but_tuple())
        self.check(is_plan, (0,), [()], right[1:])
        for plan in right[:3]:
            self.check(is_plan, (40,), [], of_other_kinds(plan))


def all_kinds_but_tuple():
    return [thing for thing in all_kinds() if not isinstance(thing, tuple)]


def all_kinds_but_stretches():
    return [thing for thing in all_kinds() if thing != ((0, 1),)]


if __name__ == "__main__":
    unittest.main()
