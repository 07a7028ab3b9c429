"""Promise [25], and what [6] says of copies aside."""

import itertools
import unittest

from tests.helpers import TASKS, all_kinds, of_other_kinds, raised, safe_plans, told_by
from tests.test_writes import STAYS
from whilemoved.asides import aside_paper, asides_of, is_aside_paper
from whilemoved.changes import beside
from whilemoved.errors import CannotDo, NotDone, NotSafe, Nothing
from whilemoved.fewest import fewest_plan
from whilemoved.judge import is_safe_plan
from whilemoved.layouts import led_by, places_of, staying_places, writes_of, wrong_places
from whilemoved.parts import closed_parts, counts_of, places_with_room
from whilemoved.writes import needs_one_more

TASK = ((1, 1), (0, 1, None), (1, 0, None))
PLAN = (((2, 0),), ((0, 1),), ((1, 2),))
BACK = (((3, 0),), ((0, 1),), ((1, 3),), ((3, 2),))
TWO = ((1,) * 4, (0, 1, 2, 3, None), (1, 0, 3, 2, None))
TWO_PLAN = (((4, 0),), ((0, 1),), ((1, 4),), ((4, 2),), ((2, 3),), ((3, 4),))


def asides_by_the_definition(task, plan):
    found = []
    for index, stretch in enumerate(plan):
        for place in places_of(stretch):
            last = all(place not in places_of(later) for later in plan[index + 1:])
            if not (last and place in wrong_places(task)):
                found.append((index, place))
    return found


def papers_by_the_definition(task, plan):
    """For each closed part the writes that may stand for it, and those that may stand for more."""
    needs, old, wish = task
    rows = []
    for part in closed_parts(task):
        tails = [old[place] for place in part]
        rows.append([
            (index, place) for index, place in asides_by_the_definition(task, plan)
            if place not in part and led_by(old, plan[:index + 1])[place] in tails])
    backs = []
    for index, stretch in enumerate(plan):
        for place in places_of(stretch):
            last = all(place not in places_of(later) for later in plan[index + 1:])
            if last and place in staying_places(task) and place in places_with_room(task):
                backs.append((index, place))
    return rows, backs


SMALL = [(task, plan) for task in TASKS if closed_parts(task) for plan in safe_plans(task, 3)[:40]]
SMALL.extend([(STAYS, plan) for plan in safe_plans(STAYS, 5)])


class Errors(unittest.TestCase):
    def check(self, plan, kind, **fields):
        calls = [(asides_of,), (aside_paper,), (is_aside_paper, None), (is_aside_paper, ((), None))]
        for call, *given in calls:
            self.assertEqual(told_by(raised(call, TASK, plan, *given)), (kind, fields))

    def test_a_plan_that_cannot_be_done_comes_first(self):
        self.check((((0, 2),),), CannotDo, index=0)
        self.check((((0, 1),), ((1, 2),)), CannotDo, index=1)
        self.check(PLAN[:2] + (((2, 0),), ((0, 2),)), NotSafe, index=2)
        self.check((((0, 1),), ((0, 1),), ((1, 2),), ((0, 2),)), CannotDo, index=2)

    def test_a_plan_that_is_not_safe_comes_ahead_of_one_that_does_not_do_it(self):
        self.check((((0, 1),),), NotSafe, index=0)
        self.check((((2, 0),), ((1, 0),)), NotSafe, index=1)
        self.check((((2, 0),), ((1, 0),), ((0, 1),)), NotSafe, index=1)

    def test_the_least_place_that_is_not_done(self):
        self.check((), NotDone, place=0)
        self.check(PLAN[:1], NotDone, place=0)
        self.check(PLAN[:2], NotDone, place=1)
        self.assertEqual(asides_of(TASK, PLAN + (((2, 0),),)), [(0, 2), (3, 2)])

    def test_the_least_place_that_then_is_not_done(self):
        task = ((1, 1), (0, 0, 1, None), (0, 0, 1, 1))
        for call in (asides_of, aside_paper):
            self.assertEqual(told_by(raised(call, task, (((3, 2),), ((1, 2),)))), (NotDone, {"place": 1}))
            self.assertEqual(told_by(raised(call, task, (((3, 2), (0, 1)), ((0, 2),)))), (NotDone, {"place": 0}))
            self.assertEqual(told_by(raised(call, task, (((3, 0),),))), (NotDone, {"place": 3}))


class Asides(unittest.TestCase):
    def test_examples(self):
        self.assertEqual(asides_of(TASK, PLAN), [(0, 2)])
        self.assertEqual(asides_of(STAYS, BACK), [(0, 3), (3, 3)])
        self.assertEqual(asides_of(TWO, TWO_PLAN), [(0, 4), (3, 4)])
        self.assertEqual(asides_of(((1,), (0, None), (0, None)), ()), [])
        self.assertEqual(asides_of(((), (), ()), ()), [])

    def test_a_wrong_place_that_is_written_again(self):
        task = ((1, 1), (0, 1, None), (1, 0, 1))
        plan = (((2, 0),), ((0, 1),), ((1, 2),), ((2, 0),))
        self.assertEqual(asides_of(task, plan), [(0, 2)])
        self.assertEqual(asides_of(task, plan + (((2, 0),),)), [(0, 2), (3, 2)])

    def test_last_is_told_by_the_place_alone(self):
        # The same copy again, and a copy that changes nothing, make an earlier write of the place one aside.
        task = ((1,), (0, None), (0, 0))
        self.assertEqual(asides_of(task, (((1, 0),), ((1, 0),))), [(0, 1)])
        self.assertEqual(asides_of(task, (((1, 0),), ((0, 1),), ((1, 0),))), [(0, 1), (1, 0)])

    def test_stretches_of_several_copies(self):
        task = ((1, 1), (0, 1, None, None), (1, 0, None, None))
        self.assertEqual(asides_of(task, (((2, 0), (3, 1)), ((0, 3), (1, 2)))), [(0, 2), (0, 3)])

    def test_small_tasks(self):
        for task, plan in SMALL:
            told = asides_of(task, plan)
            self.assertEqual(told, asides_by_the_definition(task, plan))
            self.assertEqual(writes_of(plan), counts_of(task)[0] + len(told))

    def test_new_lists(self):
        asides_of(TASK, PLAN).clear()
        self.assertEqual(asides_of(TASK, PLAN), [(0, 2)])
        self.assertIsNot(asides_of(TASK, PLAN), asides_of(TASK, PLAN))


class Papers(unittest.TestCase):
    def test_examples(self):
        self.assertEqual(aside_paper(TASK, PLAN), (((0, 2),), None))
        self.assertEqual(aside_paper(STAYS, BACK), (((0, 3),), (3, 3)))
        self.assertEqual(aside_paper(TWO, TWO_PLAN), (((0, 4), (3, 4)), None))
        self.assertEqual(aside_paper(((1,), (0, None), (None, 0)), (((1, 0),),)), ((), None))
        self.assertEqual(aside_paper(((), (), ()), ()), ((), None))

    def test_in_the_order_of_the_parts(self):
        late = TWO_PLAN[3:4] + TWO_PLAN[4:] + TWO_PLAN[:3]
        self.assertEqual(aside_paper(TWO, late), (((3, 4), (0, 4)), None))
        self.assertIs(is_aside_paper(TWO, late, (((0, 4), (3, 4)), None)), False)

    def test_the_least_ones(self):
        task = ((1, 1), (0, 1, None, None), (1, 0, None, None))
        plan = (((2, 1),), ((3, 0),), ((3, 1),), ((1, 0),), ((0, 2),))
        self.assertEqual(aside_paper(task, plan), (((0, 2),), None))
        for index, place in ((0, 2), (1, 3), (2, 3)):
            self.assertIs(is_aside_paper(task, plan, (((index, place),), None)), True)
        for index, place in ((3, 1), (4, 0), (0, 3), (1, 2)):
            self.assertIs(is_aside_paper(task, plan, (((index, place),), None)), False)
        twice = BACK + (((2, 3),),)
        self.assertEqual(aside_paper(STAYS, twice), (((0, 3),), (3, 3)))
        self.assertIs(is_aside_paper(STAYS, twice, (((0, 3),), (4, 2))), True)

    def test_more_is_a_last_write_at_a_place_that_stays_and_has_room(self):
        for more in (None, (0, 3), (1, 0), (2, 1), (4, 3), (3, 2), (), (3,)):
            self.assertIs(is_aside_paper(STAYS, BACK, (((0, 3),), more)), False, more)
        self.assertIs(is_aside_paper(TASK, PLAN, (((0, 2),), (0, 2))), False)
        self.assertIs(is_aside_paper(TASK, PLAN, (((0, 2),), ())), False)

    def test_each_part_has_its_own(self):
        self.assertIs(is_aside_paper(TWO, TWO_PLAN, (((0, 4), (3, 4)), None)), True)
        for writes in (((0, 4), (0, 4)), ((3, 4), (3, 4)), ((0, 4), (2, 1)), ((1, 0), (3, 4))):
            self.assertIs(is_aside_paper(TWO, TWO_PLAN, (writes, None)), False, writes)

    def test_a_source_that_is_free(self):
        task, plan = ((1, 1, 1), (0, 1, 2, 2), (1, 0, 2, None)), (((2, 3),), ((3, 0),), ((0, 1),), ((1, 3),))
        self.assertEqual(asides_of(task, plan), [(0, 2), (1, 3)])
        self.assertEqual(aside_paper(task, plan), (((1, 3),), None))

    def test_more_is_not_at_a_place_that_stays_without_room(self):
        task = ((1,) * 4, (0, 1, 2, 3, 3), (1, 0, 2, 3, 3))
        plan = (((3, 2),), ((2, 0),), ((0, 1),), ((1, 2),), ((2, 3),), ((3, 4),))
        self.assertEqual(aside_paper(task, plan), (((1, 2),), (5, 3)))
        self.assertIs(is_aside_paper(task, plan, (((1, 2),), (4, 2))), False)

    def test_small_tasks(self):
        mores = 0
        for task, plan in SMALL:
            rows, backs = papers_by_the_definition(task, plan)
            paper = (tuple(row[0] for row in rows), backs[0] if needs_one_more(task) else None)
            self.assertEqual(aside_paper(task, plan), paper)
            self.assertIs(is_aside_paper(task, plan, paper), True)
            places = list(itertools.product(range(len(plan)), range(len(task[1]))))
            for write in places:
                truth = len(rows) == 1 and write in rows[0]
                self.assertIs(is_aside_paper(task, plan, ((write,), paper[1])), truth)
                self.assertIs(is_aside_paper(task, plan, (paper[0], write)), needs_one_more(task) and write in backs)
            named = paper[0] + ((paper[1],) if paper[1] else ())
            self.assertEqual(len(set(named)), len(named))
            self.assertLessEqual(set(named), set(asides_of(task, plan)))
            mores += paper[1] is not None
        self.assertGreater(len(SMALL), 500)
        self.assertGreater(mores, 50)

    def test_the_fewest_plans_have_just_these(self):
        for task in (beside(TASK, TWO), STAYS, ((2, 1, 1), (0, 0, 1, 2, None), (1, 2, 0, 0, None))):
            plan = fewest_plan(task)
            self.assertIs(is_safe_plan(task, plan), True)
            writes, more = aside_paper(task, plan)
            self.assertEqual(sorted(writes + ((more,) if more else ())), asides_of(task, plan))

    def test_any_value(self):
        paper, one = (((0, 3),), (3, 3)), (((1, 2),), None)
        task, plan = ((1, 1, 1), (0, 1, None, 2, 2), (1, 0, None, 2, 2)), (((3, 4),), ((2, 0),), ((0, 1),), ((1, 2),))
        self.assertIs(is_aside_paper(task, plan, one), True)
        bad = [
            paper[:1], paper + (None,), paper[::-1], paper[0], (paper[0] * 2, (3, 3)), ((), (3, 3)), ((None,), (3, 3)),
            ({0: (0, 3)}, (3, 3)), ("a", (3, 3)), Nothing(),
        ]
        for thing in all_kinds() + of_other_kinds(paper) + bad:
            before = repr(thing)
            self.assertIs(is_aside_paper(STAYS, BACK, thing), False, thing)
            self.assertEqual(repr(thing), before)
        for thing in all_kinds() + of_other_kinds(one) + [(((1, 2),), False), (((1, 2),), 0), (((1, 2),), ())]:
            self.assertIs(is_aside_paper(task, plan, thing), False, thing)
        nothing = ((), None)
        for thing in all_kinds() + of_other_kinds(nothing) + [((), 0), ((), ()), ([], None)]:
            self.assertIs(is_aside_paper(((1,), (0,), (0,)), (), thing), thing == nothing, thing)


if __name__ == "__main__":
    unittest.main()
