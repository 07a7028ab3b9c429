"""Promise [35]."""

import random
import unittest

from tests.helpers import PIECES, all_kinds, composed, of_other_kinds
from tests.test_writes import STAYS
from whilemoved.changes import beside, with_spare
from whilemoved.fewsums import sum_plan
from whilemoved.layouts import wrong_places
from whilemoved.openings import asides, is_opened_rows, opened_rows, openings
from whilemoved.parts import closed_parts, counts_of
from whilemoved.ranks import factors_for, led_forms, rank_of
from whilemoved.sumplans import as_sums, forms_of, is_sum_plan, led_by_sums, own_form, reading

TASK = ((1, 1, 1, 1), (0, 1, 2, 3, None), (1, 0, 3, 2, None))
PLAN = (
    ((4, ((0, 1), (2, 1))),), ((0, ((1, 1),)),), ((1, ((2, 150), (4, 1))),), ((2, ((3, 1),)),),
    ((3, ((1, 150), (4, 1))),))
SWAP = ((1, 1), (0, 1), (1, 0))


def messy_stretch(chance, prime, layout, r):
    """A stretch of any sums at one place, two or three, beside which each value is told, None if none is found."""
    many = len(layout[0])
    for _ in range(30):
        lot = tuple(sorted(chance.sample(range(len(layout)), min(chance.choice((1, 2, 2, 3, 4)), len(layout) - 1))))
        outside = [place for place in range(len(layout)) if place not in lot]
        stretch = []
        for place in lot:
            some = sorted(chance.sample(outside, min(len(outside), chance.choice((1, 2, 2, 3)))))
            stretch.append((place, tuple((source, chance.choice((1, prime - 1, 2, 75))) for source in some)))
        if reading(prime, many, layout, lot, r) is not None:
            return tuple(stretch)
    return None


def way_back(chance, prime, task, layout, r):
    """Stretches that write the wish, one place or two at once, None if that is not found."""
    many, wish, plan = len(task[0]), task[2], []
    for _ in range(60):
        left = [place for place, item in enumerate(wish) if item is not None and layout[place] != own_form(many, item)]
        if not left:
            return plan
        lot = tuple(sorted(chance.sample(left, min(len(left), chance.choice((1, 2, 2, 3))))))
        if reading(prime, many, layout, lot, r) is None:
            free = [place for place, item in enumerate(wish) if item is None]
            stretch = messy_stretch(chance, prime, layout, r) if free and chance.randrange(2) else None
        else:
            outside = [place for place in range(len(layout)) if place not in lot]
            forms = [layout[source] for source in outside]
            rows = [factors_for(prime, forms, own_form(many, wish[place])) for place in lot]
            sums = [tuple((source, by) for source, by in zip(outside, row) if by) for row in rows]
            stretch = tuple(zip(lot, sums))
        if stretch is not None:
            plan.append(stretch)
            layout = led_forms(prime, layout, stretch)
    return None


def messy_plans(seed, tasks):
    """Sum plans that write places more often than is needed, several at once, with all kinds of sums."""
    chance, found = random.Random(seed), []
    for task in tasks:
        prime, r = chance.choice((151, 157, 10007)), chance.choice((1, 2, 2, 3, 4))
        plan, layout = [], forms_of(len(task[0]), task[1])
        for _ in range(chance.randint(0, 4)):
            stretch = messy_stretch(chance, prime, layout, r)
            if stretch is not None:
                plan.append(stretch)
                layout = led_forms(prime, layout, stretch)
        back = way_back(chance, prime, task, layout, r)
        if back is not None:
            found.append((prime, task, r, tuple(plan + back)))
    return found


def with_room(seed, many):
    tasks = composed(seed, many, [SWAP] * 6 + PIECES, 6, 5)
    tasks = [task for task in tasks if closed_parts(task)] + [beside(SWAP, SWAP)] * many
    return [with_spare(task, 1 + at % 4) for at, task in enumerate(tasks)]


MESSY = messy_plans(7, with_room(8, 200))


def asides_by_the_definition(task, plan):
    found = []
    for index, stretch in enumerate(plan):
        for place, _ in stretch:
            later = [other for after in plan[index + 1:] for other, _ in after]
            if place in later or place not in wrong_places(task):
                found.append((index, place))
    return found


def openings_by_the_definition(task, plan):
    found = {}
    for at, part in enumerate(closed_parts(task)):
        for index, stretch in enumerate(plan):
            places = [place for place, _ in stretch if place in part]
            if places and at not in found:
                found[at] = (index, task[1][min(places)])
    return found


def forms_aside(prime, task, plan):
    start = forms_of(len(task[0]), task[1])
    return [
        led_by_sums(prime, len(task[0]), start, plan[:index + 1])[place]
        for index, place in asides_by_the_definition(task, plan)]


class Messy(unittest.TestCase):
    def test_there_are_plans_of_all_kinds(self):
        self.assertGreater(len(MESSY), 150)
        at_once, one_part, again, sums = 0, 0, 0, 0
        for prime, task, r, plan in MESSY:
            self.assertIs(is_sum_plan(prime, task, r, plan), True)
            told = [index for index, _ in openings(task, plan).values()]
            at_once += len(set(told)) < len(told)
            for part in closed_parts(task):
                one_part += any(len([place for place, _ in stretch if place in part]) > 1 for stretch in plan)
            written = [place for stretch in plan for place, _ in stretch]
            again += len(set(written)) < len(written)
            sums += any(len(some) > 1 for stretch in plan for _, some in stretch)
        self.assertGreater(min(at_once, one_part, again, sums), 10)

    def test_asides_and_openings(self):
        for prime, task, r, plan in MESSY:
            self.assertEqual(asides(task, plan), asides_by_the_definition(task, plan))
            told = openings(task, plan)
            self.assertEqual(told, openings_by_the_definition(task, plan))
            self.assertEqual(list(told), list(range(counts_of(task)[1])))

    def test_opened_rows(self):
        for prime, task, r, plan in MESSY:
            rows, forms = opened_rows(prime, task, r, plan), forms_aside(prime, task, plan)
            told = openings_by_the_definition(task, plan)
            self.assertEqual(list(rows), list(told))
            for at, (index, value) in told.items():
                self.assertEqual([type(rows[at]), len(rows[at]), rows[at][value]], [tuple, len(task[0]), 1])
                self.assertTrue(all(0 <= item < prime for item in rows[at]))
                self.assertLess(len([item for item in rows[at] if item]), r + 1)
                self.assertIsNotNone(factors_for(prime, forms, rows[at]))
            self.assertIs(is_opened_rows(prime, task, r, plan, rows), True)
            self.assertEqual(opened_rows(prime, task, r, plan), rows)
            closed = counts_of(task)[1]
            self.assertGreaterEqual(rank_of(prime, list(rows.values())), -(-closed // r))
            self.assertGreaterEqual(len(asides(task, plan)), -(-closed // r))

    def test_rows_with_another_item(self):
        chance, seen = random.Random(9), {True: 0, False: 0}
        for prime, task, r, plan in MESSY:
            told, forms = openings(task, plan), forms_aside(prime, task, plan)
            for at, row in opened_rows(prime, task, r, plan).items():
                item = chance.randrange(len(row))
                other = row[:item] + (chance.choice((0, 1, 2, prime - 1)),) + row[item + 1:]
                good = other[told[at][1]] == 1 and len([one for one in other if one]) <= r
                good = good and factors_for(prime, forms, other) is not None
                thing = dict(opened_rows(prime, task, r, plan))
                thing[at] = other
                self.assertIs(is_opened_rows(prime, task, r, plan, thing), good)
                seen[good] += 1
        self.assertGreater(min(seen.values()), 20)


class Fewest(unittest.TestCase):
    def test_plans_with_the_fewest_writes(self):
        for task in composed(3, 150, PIECES, 10, 8):
            for r in (1, 2, 4):
                plan = sum_plan(151, task, r)
                if plan is not None:
                    self.assertEqual(asides(task, plan), asides_by_the_definition(task, plan))
                    rows = opened_rows(151, task, r, plan)
                    self.assertIs(is_opened_rows(151, task, r, plan, rows), True)
                    self.assertEqual(sorted(rows), list(range(counts_of(task)[1])))


class Edges(unittest.TestCase):
    def test_no_closed_part(self):
        for task, plan in ((((), (), ()), ()), (((1,), (0, None), (None, 0)), (((1, ((0, 1),)),),))):
            self.assertEqual([asides(task, plan), openings(task, plan), opened_rows(151, task, 1, plan)], [[], {}, {}])
            self.assertIs(is_opened_rows(151, task, 1, plan, {}), True)
            self.assertIs(is_opened_rows(151, task, 1, plan, ()), False)
            self.assertIs(is_opened_rows(151, task, 1, plan, {0: (1,)}), False)

    def test_asides_at_places_that_stay_and_at_free_ones(self):
        plan = as_sums((((3, 0),), ((0, 1),), ((1, 3),), ((3, 2),)))
        self.assertEqual(asides(STAYS, plan), [(0, 3), (3, 3)])
        self.assertEqual(openings(STAYS, plan), {0: (1, 0)})
        self.assertEqual(opened_rows(151, STAYS, 1, plan), {0: (1, 0, 0)})

    def test_a_place_that_is_written_again(self):
        task = with_spare(SWAP, 2)
        plan = as_sums((((2, 0),), ((0, 1),), ((3, 0),), ((0, 2),), ((0, 3),), ((1, 2),)))
        self.assertIs(is_sum_plan(151, task, 1, plan), True)
        self.assertEqual(asides(task, plan), [(0, 2), (1, 0), (2, 3), (3, 0)])
        self.assertEqual(openings(task, plan), {0: (1, 0)})

    def test_a_place_that_was_written_aside_earlier_but_is_not_now(self):
        # Ahead of its last write place 1 gets value 3 aside; value 2 is then told by it and by the sum.
        rows = [(4, ((0, 1), (2, 1))), (0, ((1, 1),)), (1, ((3, 1),)), (1, ((2, 150), (4, 1))), (2, ((3, 1),))]
        rows.append((3, ((1, 150), (4, 1))))
        plan = tuple((row,) for row in rows)
        self.assertIs(is_sum_plan(151, TASK, 2, plan), True)
        self.assertEqual(asides(TASK, plan), [(0, 4), (2, 1)])
        self.assertEqual(opened_rows(151, TASK, 2, plan), {0: (1, 0, 1, 0), 1: (1, 0, 1, 0)})

    def test_two_parts_and_two_places_of_one_at_once(self):
        task = beside(with_spare(SWAP, 2), with_spare(SWAP, 2))
        aside = ((2, ((0, 1),)), (3, ((1, 1),)), (6, ((4, 1),)), (7, ((5, 1),)))
        both = ((0, ((3, 1),)), (1, ((2, 1),)), (4, ((7, 1),)), (5, ((6, 1),)))
        plan = (aside, both)
        self.assertIs(is_sum_plan(151, task, 1, plan), True)
        self.assertEqual(openings(task, plan), {0: (1, 0), 1: (1, 2)})
        self.assertEqual(opened_rows(151, task, 1, plan), {0: (1, 0, 0, 0), 1: (0, 0, 1, 0)})
        later = (aside, both[1:2], both[3:], both[:1] + both[2:3])
        self.assertEqual(openings(task, later), {0: (1, 1), 1: (2, 3)})

    def test_the_least_place_that_is_written_tells_the_value(self):
        task = (TASK[0], (3, 2, 1, 0, None, None), (2, 3, 0, 1, None, None))
        plan = as_sums((((4, 0), (5, 1)), ((0, 5), (1, 4)), ((4, 2),), ((2, 3),), ((3, 4),)))
        self.assertIs(is_sum_plan(151, task, 1, plan), True)
        self.assertEqual(openings(task, plan), {0: (1, 3), 1: (3, 1)})

    def test_new_lists_and_dicts(self):
        asides(TASK, PLAN).clear()
        openings(TASK, PLAN).clear()
        opened_rows(151, TASK, 2, PLAN).clear()
        self.assertEqual(asides(TASK, PLAN), [(0, 4)])
        self.assertEqual(openings(TASK, PLAN), {0: (1, 0), 1: (3, 2)})
        self.assertEqual(opened_rows(151, TASK, 2, PLAN), {0: (1, 0, 1, 0), 1: (1, 0, 1, 0)})

    def test_any_value(self):
        row = (1, 0, 1, 0)
        self.assertIs(is_opened_rows(151, TASK, 2, PLAN, {1: row, 0: row}), True)
        bad = [
            {0: row}, {0: row, 1: row, 2: row}, {0: row, 2: row}, {}, {False: row, 1: row}, {0: row, True: row},
            {0: row, "1": row}, {None: row, 1: row}, (row, row), [row, row], {0: row, 1: (0, 0, 1, 0)},
            {0: (1, 0, 0, 0), 1: row}, {0: (2, 0, 2, 0), 1: row}, {0: row, 1: (1, 0, 1)}, {0: row, 1: row + (0,)},
            {0: row, 1: (1, 0, 152, 0)}, {0: row, 1: (1, 151, 1, 0)}, {0: (1, 0, 1, -151), 1: row}, {-1: row, 0: row},
        ]
        bad.extend([{0: row, 1: thing} for thing in all_kinds() + of_other_kinds(row)])
        bad.extend([{0: thing, 1: row} for thing in all_kinds() + of_other_kinds(row)])
        for thing in bad + all_kinds():
            before = repr(thing)
            self.assertIs(is_opened_rows(151, TASK, 2, PLAN, thing), False, thing)
            self.assertEqual(repr(thing), before)

    def test_no_more_than_r_values(self):
        # A plan that is read by 2 is read by 3 as well, and its rows may have one value more then.
        plan = (((4, ((0, 1), (2, 1), (3, 1))),),) + PLAN
        self.assertIs(is_sum_plan(151, TASK, 2, plan), True)
        more = {0: (1, 0, 1, 1), 1: (1, 0, 1, 0)}
        self.assertIs(is_opened_rows(151, TASK, 2, plan, more), False)
        self.assertIs(is_opened_rows(151, TASK, 3, plan, more), True)


if __name__ == "__main__":
    unittest.main()
