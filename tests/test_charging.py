"""Promise [30], and what [8] says of two stretches."""

import itertools
import unittest

from tests.helpers import TASKS, all_kinds, by_start, fewest_searched, of_other_kinds
from whilemoved.charging import bearing, can_twice, charging, fills_of, is_charging, twice_plan
from whilemoved.errors import Nothing
from whilemoved.judge import is_safe, is_safe_plan
from whilemoved.layouts import led, wrong_places

TASK = ((1, 1), (0, 1, 1), (1, 0, None))
SMALL = ((1, 1), (0, 1, None), (1, 0, None))
WIDE = ((1, 1), (0, 1, None, None), (1, 0, None, None))
# Free places with more standings than may be filled, two of one value, open ones, a value with a need above 1.
FREE = ((1, 2, 1), (0, 0, 0, 1, 1, 1, 1, 2, None), (None, None, 0, None, None, 1, 1, 2, None))
MIXED = ((1, 1, 1), (0, 1, 1, 2, 2, None, None), (1, 0, None, None, 2, 2, None))
STARTS = [
    ((1, 1), (0, 0, 1, 1, None)), ((1, 1, 1), (0, 1, 2, 2, None)), ((2, 1), (0, 0, 0, 1, 1)), ((1, 1), (0, 1, 1, 1, 0)),
]


def wishes(needs, many):
    rows = itertools.product((None,) + tuple(range(len(needs))), repeat=many)
    return [row for row in rows if all(row.count(value) >= need for value, need in enumerate(needs))]


FIVES = [(needs, old, wish) for needs, old in STARTS for wish in wishes(needs, 5)[::3]]


def held(task, value):
    """How many free places hold a value."""
    return sum(item is None and there == value for item, there in zip(task[2], task[1]))


def fills(task):
    needs, old, wish = task
    most = [min(held(task, value), old.count(value) - need) for value, need in enumerate(needs)]
    rows = sorted(itertools.product(*[range(many + 1) for many in most]))
    return [{value: many for value, many in enumerate(row) if many} for row in rows]


def borne(task, fill):
    needs, old, wish = task
    tails = {value: old.count(value) - need - fill.get(value, 0) for value, need in enumerate(needs)}
    heads = {
        value: wish.count(value) - need + held(task, value) - fill.get(value, 0) for value, need in enumerate(needs)}
    return (tails, heads, held(task, None) + sum(fill.values()))


def charged(task):
    return [place for place in wrong_places(task) if task[1][place] is not None]


def fits(task, fill, charges):
    """Whether charges, of all wrong places that are not open, are no more than what bears them bears."""
    needs, old, wish = task
    tails, heads, pool = borne(task, fill)
    to_tails = [old[place] for place in charges if charges[place] == "tail"]
    to_heads = [wish[place] for place in charges if charges[place] == "head"]
    if any(to_tails.count(value) > tails[value] or to_heads.count(value) > heads[value] for value in tails):
        return False
    return len(charges) - len(to_tails) - len(to_heads) <= pool


def all_charges(task):
    places = charged(task)
    return [dict(zip(places, row)) for row in itertools.product(("tail", "head", "pool"), repeat=len(places))]


class Fills(unittest.TestCase):
    def test_examples(self):
        self.assertEqual(fills_of(TASK), [{}, {1: 1}])
        self.assertEqual(fills_of(SMALL), [{}])
        rows = [{}, {1: 1}, {1: 2}, {0: 1}, {0: 1, 1: 1}, {0: 1, 1: 2}, {0: 2}, {0: 2, 1: 1}, {0: 2, 1: 2}]
        self.assertEqual(fills_of(FREE), rows)
        for task in (((), (), ()), ((), (None,), (None,)), ((1,), (0,), (0,)), ((1,), (0, None), (None, 0))):
            self.assertEqual(fills_of(task), [{}])

    def test_no_more_than_the_room(self):
        self.assertEqual(fills_of(((2,), (0, 0, 0, None), (None, None, 0, 0))), [{}, {0: 1}])
        self.assertEqual(fills_of(((1,), (0, 0, 0, None), (None, None, 0, 0))), [{}, {0: 1}, {0: 2}])
        self.assertEqual(fills_of(((1,), (0, 0, 0, None), (None, 0, 0, 0))), [{}, {0: 1}])

    def test_as_the_definition_tells(self):
        for task in TASKS + FIVES:
            told = fills_of(task)
            self.assertEqual(told, fills(task), task)
            for fill in told:
                self.assertEqual(list(fill), sorted(fill))

    def test_new_lists_and_dicts(self):
        told = fills_of(FREE)
        for fill in fills_of(FREE):
            fill.clear()
        fills_of(FREE).clear()
        self.assertEqual(fills_of(FREE), told)
        self.assertEqual(len({id(fill) for fill in told}), len(told))


class Bearing(unittest.TestCase):
    def test_examples(self):
        self.assertEqual(bearing(TASK, {}), ({0: 0, 1: 1}, {0: 0, 1: 1}, 0))
        self.assertEqual(bearing(TASK, {1: 1}), ({0: 0, 1: 0}, {0: 0, 1: 0}, 1))
        self.assertEqual(bearing(FREE, {}), ({0: 2, 1: 2, 2: 0}, {0: 2, 1: 2, 2: 0}, 1))
        self.assertEqual(bearing(FREE, {0: 2, 1: 1}), ({0: 0, 1: 1, 2: 0}, {0: 0, 1: 1, 2: 0}, 4))
        self.assertEqual(bearing(((), (None,), (None,)), {}), ({}, {}, 1))

    def test_as_the_definition_tells_whatever_the_order_of_the_keys(self):
        for task in TASKS[::5] + FIVES + [FREE, MIXED]:
            for fill in fills(task):
                given = dict(sorted(fill.items(), reverse=True))
                told = bearing(task, given)
                self.assertEqual(told, borne(task, fill), task)
                self.assertEqual([list(told[0]), list(told[1])], [list(range(len(task[0])))] * 2)
                self.assertEqual(list(given.items()), sorted(fill.items(), reverse=True))
                self.assertEqual(min(list(told[0].values()) + list(told[1].values()) + [told[2], 0]), 0)

    def test_new_dicts(self):
        tails, heads, _ = bearing(SMALL, {})
        self.assertIsNot(tails, heads)
        tails.clear()
        heads.clear()
        self.assertEqual(bearing(SMALL, {}), ({0: 0, 1: 0}, {0: 0, 1: 0}, 1))


class Chargings(unittest.TestCase):
    def check(self, task):
        found = charging(task)
        fitting = any(fits(task, fill, charges) for fill in fills(task) for charges in all_charges(task))
        self.assertIs(can_twice(task), fitting, task)
        if not fitting:
            self.assertIsNone(found, task)
            return
        fill, charges = found
        self.assertIn(fill, fills(task))
        self.assertEqual(list(charges), charged(task), task)
        self.assertTrue(fits(task, fill, charges), task)
        self.assertIs(is_charging(task, found), True)
        self.assertEqual(charging(task), found)

    def test_small_tasks(self):
        for task in TASKS + FIVES + [FREE, MIXED]:
            self.check(task)

    def test_examples(self):
        self.assertEqual(charging(TASK), ({}, {0: "head", 1: "tail"}))
        self.assertIsNone(charging(SMALL))
        self.assertEqual(charging(WIDE), ({}, {0: "pool", 1: "pool"}))
        for task in (((), (), ()), ((), (None,), (None,)), ((1,), (0, 0), (0, None)), ((1,), (0, None), (None, 0))):
            self.assertEqual(charging(task), ({}, {}))

    def test_a_fill_that_is_needed(self):
        task = ((1, 1, 1), (0, 0, 1, 2), (0, None, 2, 1))
        self.assertIsNone(charging(task))
        task = ((1,) * 3, (0, 0, 0, 1, 2), (0, None, None, 2, 1))
        self.assertEqual(charging(task)[0], {0: 2})
        self.assertIs(is_charging(task, ({}, charging(task)[1])), False)

    def test_new_dicts(self):
        fill, charges = charging(TASK)
        fill[0] = 9
        charges.clear()
        self.assertEqual(charging(TASK), ({}, {0: "head", 1: "tail"}))

    def test_the_bounds(self):
        task = ((1,) * 5, (0, 0, 0, 1, 1, 1, 2, 2, 2, 3, 3, 3, 4, None, None, None),
                (0, None, None, 1, None, None, 2, None, None, 4, None, None, 3, None, None, 4))
        self.assertEqual(len(fills_of(task)), 81)
        self.assertIs(is_charging(task, charging(task)), True)
        ring = ((1,) * 8, tuple(range(8)) * 2, tuple(range(1, 8)) + (0,) + tuple(range(2, 8)) + (0, 1))
        self.assertIs(is_charging(ring, charging(ring)), True)


class IsCharging(unittest.TestCase):
    def check(self, task, thing, truth):
        before = repr(thing)
        self.assertIs(is_charging(task, thing), truth, (task, thing))
        self.assertEqual(repr(thing), before)

    def test_all_charges(self):
        seen = {True: 0, False: 0}
        for task in TASKS[::11] + FIVES[::5] + [MIXED]:
            for fill, charges in itertools.product(fills(task), all_charges(task)):
                truth = fits(task, fill, charges)
                self.check(task, (fill, charges), truth)
                turned = [dict(sorted(rows.items(), reverse=True)) for rows in (fill, charges)]
                self.check(task, tuple(turned), truth)
                seen[truth] += 1
        self.assertGreater(min(seen.values()), 500)

    def test_fills(self):
        task = FREE
        for fill in fills(task):
            self.check(task, (fill, {}), True)
        bad = [
            {0: 3}, {1: 3}, {2: 1}, {0: 0}, {3: 1}, {-1: 1}, {0: -1}, {0: True}, {False: 1}, {True: 1}, {None: 1},
            {"0": 1}, {0: "1"}, {0: None}, {0: (1,)}, {(0,): 1}, {0: [1]}, {0: 1, 1: 0}, {0: 1, None: 1}, [], (), None,
        ]
        for fill in bad:
            self.check(task, (fill, {}), False)

    def test_no_more_than_the_places_that_hold_a_value(self):
        task = ((1,), (0, 0, 0), (0, 0, None))
        self.check(task, ({0: 1}, {}), True)
        self.check(task, ({0: 2}, {}), False)

    def test_charges(self):
        self.check(WIDE, ({}, {0: "pool", 1: "pool"}), True)
        self.check(WIDE, ({}, {1: "pool", 0: "pool"}), True)
        bad = [
            {}, {0: "pool"}, {1: "pool"}, {0: "pool", 1: "tail"}, {0: "pool", 1: "head"}, {0: "pool", 1: "Pool"},
            {0: "pool", 1: None}, {0: "pool", 1: ("pool",)}, {0: "pool", 1: ["pool"]}, {0: "pool", 1: 2},
            {0: "pool", 1: "pool", 2: "pool"}, {False: "pool", True: "pool"}, {0: "pool", True: "pool"},
            {0: "pool", "1": "pool"}, {0: "pool", 1: "pool", None: "pool"}, {0: "pool", 1: "pool", 9: "tail"},
            {0: "pool", 1: ""}, {0: "pool", 1: "pooltail"}, {(0,): "pool", 1: "pool"}, {0: {}, 1: Nothing()},
        ]
        for charges in bad:
            self.check(WIDE, ({}, charges), False)

    def test_open_wrong_places_are_charged_to_nothing(self):
        task = ((1,), (0, 0, None), (0, None, 0))
        self.check(task, ({}, {}), True)
        self.check(task, ({0: 1}, {}), True)
        for charge in ("tail", "head", "pool"):
            self.check(task, ({}, {2: charge}), False)

    def test_any_value(self):
        good = ({}, {0: "head", 1: "tail"})
        self.check(TASK, good, True)
        bad = [
            good[::-1], good + ({},), good[:1], list(good), {0: {}, 1: {}}, (good,), ([], good[1]), ({}, [(0, "head")]),
            ({}, (0, 1)), ({}, "01"), ({}, ["head", "tail"]), (None, good[1]), ({}, None), (Nothing(), good[1]),
            Nothing(),
        ]
        for thing in all_kinds() + of_other_kinds(good) + bad:
            self.check(TASK, thing, False)
        still = ((1,), (0,), (0,))
        self.check(still, ({}, {}), True)
        for thing in all_kinds() + [({}, []), ([], {}), ((), ()), ({}, {0: "tail"}), ({0: 1}, {}), [{}, {}]]:
            self.check(still, thing, False)


class Plans(unittest.TestCase):
    def check(self, task, truth):
        plan = twice_plan(task)
        self.assertIs(can_twice(task), truth, task)
        if not truth:
            self.assertIsNone(plan, task)
            return
        self.assertIs(is_safe_plan(task, plan), True, task)
        self.assertLessEqual(len(plan), 2)
        self.assertIs(len(plan) == 0, len(wrong_places(task)) == 0, task)
        layout = task[1]
        for stretch in plan:
            self.assertIs(is_safe(task[0], layout, stretch), True)
            layout = led(layout, stretch)
        self.assertEqual(twice_plan(task), plan)

    def test_all_small_tasks_as_the_search_tells(self):
        seen = {True: 0, False: 0}
        for (needs, old), rows in by_start().items():
            for wish in rows:
                truth = fewest_searched((needs, old, wish), 2) is not None
                self.check((needs, old, wish), truth)
                seen[truth] += 1
        self.assertGreater(min(seen.values()), 100)

    def test_five_places_as_the_search_tells(self):
        for task in FIVES:
            self.check(task, fewest_searched(task, 2) is not None)

    def test_examples(self):
        self.assertEqual(twice_plan(TASK), (((1, 0),), ((0, 2),)))
        for task in (WIDE, MIXED, FREE):
            self.check(task, True)
        for task in (SMALL, ((1, 1), (0, 1), (1, 0))):
            self.check(task, False)

    def test_no_more_places_are_filled_than_the_charging_tells(self):
        tasks = [
            ((1, 1, 1, 2), (0, 3, 2, 3, 3, 0, 1, 0), (None, 0, 1, 3, None, None, 2, 3)),
            ((2, 1, 1, 2), (3, 3, 1, 2, 2, 0, 1, 2, 0), (0, 3, None, None, 1, 0, None, 2, 3)),
            ((1, 1, 1, 1), (1, 2, 1, 1, 3, 1, 0, 1, 3), (1, None, None, None, 2, None, 3, None, 0)),
            ((2, 1, 2), (2, 1, 0, 1, 0, None, 2), (None, 1, 0, None, 2, 2, 0)),
        ]
        for task in tasks:
            self.check(task, True)
            self.assertIn("pool", charging(task)[1].values())
            self.assertNotEqual(charging(task)[0], {})

    def test_places_that_are_filled(self):
        task = ((1,) * 3, (0, 0, 0, 1, 2), (0, None, None, 2, 1))
        self.check(task, True)
        self.assertEqual([[copy[0] for copy in stretch] for stretch in twice_plan(task)], [[1, 2], [3, 4]])


if __name__ == "__main__":
    unittest.main()
