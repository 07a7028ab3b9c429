"""Promise [28], and what [7] says of plans by groups of parts."""

import itertools
import unittest

from tests.helpers import (
    MANY, UNEVEN, all_kinds, even_tasks, fewest_searched, of_other_kinds, raised, safe_plans, told_by,
)
from tests.test_groups import rings
from whilemoved.errors import NotEven, Nothing
from whilemoved.fewest import fewest_plan
from whilemoved.fronts import writes_within
from whilemoved.groupplans import is_token_rows, plan_within, token_rows
from whilemoved.groups import best_grouping, places_taken
from whilemoved.judge import is_safe_plan
from whilemoved.layouts import layouts_along, writes_of

SMALL = ((1, 1), (0, 1, None), (1, 0, None))
PAIR = ((1, 1), (0, 1, None, None), (1, 0, None, None))
PLAN = (((2, 0),), ((0, 1),), ((1, 2),))
BOTH = (((2, 0), (3, 1)), ((0, 3), (1, 2)))
SIZES = [
    (), (2,), (5,), (9,), (2, 2), (3, 5), (2, 2, 2), (2, 3, 4), (5, 5, 2), (2, 2, 3, 4), (2,) * 6, (4,) * 4, (7, 2, 2),
]


def rows_by_the_definition(task, plan, thing):
    """Whether thing, some rows of tuples of an index and a place, are token rows."""
    needs, old, wish = task
    layouts = layouts_along(old, plan)
    writes = [(index, place) for index, stretch in enumerate(plan) for place, source in stretch]
    if len(thing) != wish.count(None) or sorted(write for row in thing for write in row) != sorted(writes):
        return False
    for row in thing:
        expected, ahead = None, -1
        for index, place in row:
            if index <= ahead or layouts[index][place] != expected:
                return False
            expected, ahead = layouts[index][dict(plan[index])[place]], index
    return True


class Plans(unittest.TestCase):
    def check(self, task, ks):
        for k in ks:
            writes, plan = writes_within(task, k), plan_within(task, k)
            if writes is None:
                self.assertIsNone(plan, (task, k))
                continue
            self.assertIs(is_safe_plan(task, plan), True, (task, k))
            self.assertEqual(writes_of(plan), writes, (task, k))
            self.assertLessEqual(len(plan), k, (task, k))
            self.assertEqual(plan_within(task, k), plan)
            self.assertIs(is_token_rows(task, plan, token_rows(task, plan)), True, (task, k))

    def test_small_tasks_as_the_search_tells(self):
        kinds = [((1, 1), 0), ((1, 1), 2), ((2, 1), 1), ((2, 1), 2), ((1, 1, 1), 1), ((1, 1, 1), 2), ((2, 2), 1)]
        for needs, spare in kinds:
            for task in even_tasks(needs, spare):
                self.check(task, (0, 1, 2, 3, 4, 5, 6, 7, MANY))
                for k in range(8):
                    plan, fewest = plan_within(task, k), fewest_searched(task, k)
                    self.assertEqual(None if plan is None else writes_of(plan), fewest)

    def test_parts_of_all_sizes(self):
        for sizes in SIZES:
            for spare in range(6):
                self.check(rings(sizes, spare), tuple(range(sum(sizes) + len(sizes) + 2)) + (MANY, 10 ** 6))

    def test_groups_of_several_parts_that_take_several_places(self):
        seen = 0
        for sizes in itertools.combinations_with_replacement((2, 3, 5, 6), 4):
            for spare in (2, 3):
                task = rings(sizes, spare)
                for k in range(4, 12):
                    grouping = best_grouping(task, k) or ()
                    if any(len(group) > 1 and places_taken(task, group, k) > 1 for group in grouping):
                        self.check(task, (k,))
                        seen += 1
        self.assertGreater(seen, 30)

    def test_a_round_that_takes_more_rows_than_two(self):
        # The second round begins at the end of a row, takes another one whole, and a third part is done behind it.
        for sizes, spare, k in (((6, 6, 2), 4, 5), ((8, 8, 2), 4, 6), ((7, 8, 3), 4, 6)):
            self.assertEqual(best_grouping(rings(sizes, spare), k), ((0, 1, 2),))
            self.check(rings(sizes, spare), (k,))

    def test_needs_above_one(self):
        for needs, spare in (((2, 2, 2), 2), ((3, 2, 1), 1), ((4, 2), 3)):
            for task in even_tasks(needs, spare)[::7]:
                self.check(task, (2, 3, 4, 5, 7, MANY))

    def test_edges(self):
        for task in (rings((), 0), rings((), 3), ((2,), (0, None, 0), (0, None, 0))):
            for k in (0, 1, 2, MANY):
                self.assertEqual(plan_within(task, k), ())
        for task in (rings((2,), 0), rings((2, 3), 0)):
            for k in (0, 1, 2, MANY):
                self.assertIsNone(plan_within(task, k))
        self.assertEqual([plan_within(PAIR, k) is None for k in range(4)], [True, True, False, False])

    def test_the_bounds(self):
        self.check(((4, 4, 4), (0, 1, 2) * 4 + (None,) * 4, (1, 2, 0) * 4 + (None,) * 4), range(18))
        self.check(rings((2,) * 8, 3), range(26))


class TokenRows(unittest.TestCase):
    def check(self, task, plan):
        rows = token_rows(task, plan)
        self.assertTrue(rows_by_the_definition(task, plan, rows), (task, plan))
        self.assertIs(is_token_rows(task, plan, rows), True, (task, plan))
        self.assertEqual(token_rows(task, plan), rows)

    def test_examples(self):
        self.assertEqual(token_rows(SMALL, PLAN), (((0, 2), (1, 0), (2, 1)),))
        self.assertEqual(token_rows(rings((), 0), ()), ())
        self.assertEqual(token_rows(rings((), 2), ()), ((), ()))
        self.assertEqual(sorted(token_rows(PAIR, PLAN)), [(), ((0, 2), (1, 0), (2, 1))])
        self.assertEqual(sorted(token_rows(PAIR, BOTH)), [((0, 2), (1, 0)), ((0, 3), (1, 1))])

    def test_all_plans_of_few_stretches(self):
        seen = 0
        tasks = [rings((), 1), rings((), 2), SMALL, PAIR, ((1,), (0, None), (0, None))]
        tasks.extend([((1,), (0, None, None), (0, None, None)), ((2,), (0, None, 0), (0, None, 0))])
        for task in tasks:
            for plan in safe_plans(task, 3):
                self.check(task, plan)
                seen += 1
        self.assertGreater(seen, 200)

    def test_longer_plans(self):
        # The same over and over: more writes than needed, places that are written again, copies that change nothing.
        back = (((0, 2),), ((2, 0),), ((2, 0),))
        self.check(SMALL, (((2, 0),), ((2, 1),)) + (((2, 0),), ((2, 0),)) + PLAN[1:] + (((2, 1),), ((2, 0),)) * 3)
        self.check(PAIR, (((2, 0), (3, 0)), ((2, 1), (3, 0)), ((3, 1),), ((2, 0),)) + (((0, 1),), ((1, 2),)))
        self.check(((1,), (0, None, None), (0, None, None)), (((2, 0),),) + back * 3)
        for sizes in ((2, 2), (2, 3, 4), (2,) * 6):
            self.check(rings(sizes, 1), fewest_plan(rings(sizes, 1)))
            self.check(rings(sizes, 3), fewest_plan(rings(sizes, 3)))

    def test_all_rows(self):
        seen = {True: 0, False: 0}
        still = ((1,), (0, None, None), (0, None, None))
        plans = [(SMALL, PLAN), (PAIR, PLAN), (PAIR, BOTH), (SMALL, PLAN[:1] + PLAN)]
        plans.append((still, (((1, 0), (2, 0)), ((1, 0), (2, 0)))))
        for task, plan in plans:
            writes = [(index, place) for index, stretch in enumerate(plan) for place, source in stretch]
            spare = task[2].count(None)
            for order in itertools.permutations(writes):
                for cuts in itertools.combinations_with_replacement(range(len(order) + 1), spare - 1):
                    ends = (0,) + cuts + (len(order),)
                    thing = tuple(order[one:other] for one, other in zip(ends, ends[1:]))
                    truth = rows_by_the_definition(task, plan, thing)
                    self.assertIs(is_token_rows(task, plan, thing), truth, (task, plan, thing))
                    seen[truth] += 1
        self.assertGreater(min(seen.values()), 5)

    def test_what_is_left_out_or_added(self):
        rows = (((0, 2), (1, 0), (2, 1)), ())
        self.assertIs(is_token_rows(PAIR, PLAN, rows), True)
        self.assertIs(is_token_rows(PAIR, PLAN, rows[::-1]), True)
        bad = [
            rows[:1], rows + ((),), (rows[0][:2], ()), (rows[0][1:], ()), (rows[0], rows[0]), (rows[0], rows[0][:1]),
            (rows[0][:2], rows[0][2:]), (rows[0] + ((3, 2),), ()), (((0, 3),) + rows[0][1:], ()), (rows[0][::-1], ()),
            (((0, 2), (0, 2)) + rows[0][1:], ()), ((rows[0],), ()), (rows[0], (None,)), (rows[0], None), rows[0], (),
            ((), ()),
            (((0, 2), (1, 0), (2, 1, 0)), ()), (((0, 2), (1, 0), (2,)), ()), (((0, 2), (-2, 0), (2, 1)), ()),
        ]
        for thing in bad:
            self.assertIs(is_token_rows(PAIR, PLAN, thing), False, thing)
        self.assertIs(is_token_rows(rings((), 0), (), ()), True)
        self.assertIs(is_token_rows(rings((), 0), (), ((),)), False)

    def test_any_value(self):
        rows = (((0, 2), (1, 0), (2, 1)), ())
        bad = [{0: rows[0], 1: ()}, [rows], {rows[0]: 0, (): 1}, (Nothing(), ()), Nothing(), "ab", ("", "")]
        for thing in all_kinds() + of_other_kinds(rows) + bad:
            before = repr(thing)
            self.assertIs(is_token_rows(PAIR, PLAN, thing), False, thing)
            self.assertEqual(repr(thing), before)


class Uneven(unittest.TestCase):
    def test_ahead_of_all_else(self):
        for task in UNEVEN:
            calls = [(plan_within, 0), (plan_within, 5), (token_rows, ()), (token_rows, (((0, 1),),))]
            calls.extend([(is_token_rows, (), None), (is_token_rows, (), ()), (is_token_rows, (((0, 1),),), ((),))])
            for call, *given in calls:
                self.assertEqual(told_by(raised(call, task, *given)), (NotEven, {}))


if __name__ == "__main__":
    unittest.main()
