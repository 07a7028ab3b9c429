"""Promise [37], and what [9] says of two stretches."""

import itertools
import random
import unittest

from tests.helpers import all_kinds, of_other_kinds
from tests.test_ranks import rank_from_behind
from whilemoved.ranks import is_linear_task, tells_all, wrong_forms
from whilemoved.sumplans import is_sums, led_by_sums
from whilemoved.twolots import barring_lot, is_barring, is_parting, parting_lots, two_plan

ONE, TWO, BOTH, NONE = (1, 0), (0, 1), (1, 1), (0, 0)
SWAP = (151, 2, (ONE, TWO), (TWO, ONE))
THIRD = (151, 2, (ONE, TWO, BOTH), (TWO, ONE, BOTH))


def linear_tasks(seed, count, most, values):
    """Linear tasks without free places, most of whose items are 0, and of whose forms many are alike."""
    chance, found = random.Random(seed), []
    while len(found) < count:
        prime, many = chance.choice((151, 10007)), chance.randint(1, values)
        length = chance.randint(many, most)
        items = (0, 0, 0, 1, 2, prime - 1)
        old, wish = [[tuple(chance.choice(items) for _ in range(many)) for _ in range(length)] for _ in "ow"]
        wish = [form if chance.randrange(3) else old[place] for place, form in enumerate(wish)]
        task = (prime, many, tuple(old), tuple(wish))
        if is_linear_task(task):
            found.append(task)
    return found


TASKS = linear_tasks(1, 400, 7, 4)


def lots_of(places):
    return [lot for size in range(len(places) + 1) for lot in itertools.combinations(places, size)]


def rank_outside(task, layout, lot):
    return rank_from_behind(task[0], [form for place, form in enumerate(layout) if place not in lot])


def parts_well(task, first, second):
    return rank_outside(task, task[2], first) == task[1] and rank_outside(task, task[3], second) == task[1]


def bars(task, lot):
    return rank_outside(task, task[2], lot) + rank_outside(task, task[3], lot) + len(lot) < 2 * task[1]


class Two(unittest.TestCase):
    def check_plan(self, task, plan, lots):
        """That a plan leads from old to wish in at most two stretches, beside which all is told."""
        prime, many, old, wish = task
        self.assertIs(is_sums(prime, len(old), plan), True)
        self.assertEqual(len(plan), len([lot for lot in lots if lot]))
        self.assertLessEqual(len(plan), 2)
        for index, stretch in enumerate(plan):
            places = [place for place, _ in stretch]
            outside = tuple(place for place in range(len(old)) if place not in places)
            self.assertTrue(tells_all(prime, many, led_by_sums(prime, many, old, plan[:index]), outside))
        self.assertEqual(led_by_sums(prime, many, old, plan), wish)

    def check(self, task):
        lots, bar, plan = parting_lots(task), barring_lot(task), two_plan(task)
        self.assertIs(is_parting(task, lots), bar is None)
        self.assertIs(is_barring(task, bar), lots is None)
        if lots is None:
            self.assertIsNone(plan)
            self.assertTrue(bars(task, bar))
        else:
            self.assertTrue(parts_well(task, lots[0], lots[1]))
            self.check_plan(task, plan, lots)
        self.assertEqual([parting_lots(task), barring_lot(task), two_plan(task)], [lots, bar, plan])
        return lots is not None

    def test_all_lots_of_small_tasks(self):
        seen = {True: 0, False: 0}
        for task in TASKS:
            wrong = wrong_forms(task)
            parting = [
                (first, tuple(place for place in wrong if place not in first)) for first in lots_of(wrong)]
            good = [lots for lots in parting if parts_well(task, lots[0], lots[1])]
            barring = [lot for lot in lots_of(wrong) if bars(task, lot)]
            self.assertEqual(len(good) > 0, len(barring) == 0)
            self.assertIs(self.check(task), len(good) > 0)
            for lots in parting:
                self.assertIs(is_parting(task, lots), lots in good)
            for lot in lots_of(wrong):
                self.assertIs(is_barring(task, lot), lot in barring)
            seen[len(good) > 0] += len(wrong) > 2
        self.assertGreater(min(seen.values()), 50)

    def test_larger_tasks(self):
        seen = {True: 0, False: 0}
        for task in linear_tasks(2, 60, 10, 8) + linear_tasks(3, 8, 16, 8):
            seen[self.check(task)] += 1
        self.assertGreater(min(seen.values()), 5)

    def test_exchanges_that_are_needed(self):
        # Place 0 can only come into the first lot, which the places behind it have to leave one by one.
        own = tuple(tuple(int(at == value) for at in range(3)) for value in range(3))
        old = own + (own[0], own[1], own[2])
        for row in itertools.permutations(range(6)):
            wish = tuple(old[place] for place in row)
            self.check((151, 3, old, wish))

    def test_nothing_wrong(self):
        for task in ((151, 2, (ONE, TWO), (ONE, TWO)), (151, 0, (), ()), (151, 1, ((3,),), ((3,),))):
            self.assertEqual([parting_lots(task), barring_lot(task), two_plan(task)], [((), ()), None, ()])
            self.assertIs(is_parting(task, ((), ())), True)
            self.assertIs(is_barring(task, ()), False)

    def test_no_place_beside(self):
        self.assertEqual([parting_lots(SWAP), two_plan(SWAP)], [None, None])
        self.assertIs(is_barring(SWAP, barring_lot(SWAP)), True)
        self.assertEqual([is_barring(SWAP, lot) for lot in ((), (0,), (1,), (0, 1))], [False, True, True, True])
        one = (151, 1, ((1,),), ((2,),))
        self.assertEqual([parting_lots(one), barring_lot(one), two_plan(one)], [None, (0,), None])

    def test_one_stretch_is_enough(self):
        task = (151, 1, ((1,), (5,)), ((1,), (2,)))
        self.assertEqual(len(two_plan(task)), 1)
        task = (151, 2, (ONE, TWO, NONE, NONE), (ONE, TWO, BOTH, (3, 4)))
        self.check(task)
        self.assertIs(is_parting(task, ((2, 3), ())), True)
        # Only ahead of them all is told beside places 2 and 3, only behind them beside places 0 and 1.
        task = (151, 2, (ONE, TWO, NONE, NONE), (TWO, ONE, ONE, TWO))
        self.assertEqual(parting_lots(task), ((2, 3), (0, 1)))
        self.check(task)


class Kinds(unittest.TestCase):
    def check(self, call, task, things):
        for thing in things:
            before = repr(thing)
            self.assertIs(call(task, thing), False, thing)
            self.assertEqual(repr(thing), before)

    def test_is_parting(self):
        self.assertEqual([is_parting(THIRD, ((0,), (1,))), is_parting(THIRD, ((1,), (0,)))], [True, True])
        bad = [
            ((0,),), ((0,), (1,), ()), ((0, 1), (1,)), ((0,), (0, 1)), ((0,), (0,)), ((), ()), ((0,), ()),
            ((0,), (1, 2)),
            ((0, 2), (1,)), ((0,), (3,)), ((-1,), (1,)), ((1, 0), ()), ((0, 1), ()), ((), (0, 1)), None, (0, 1),
        ]
        self.check(is_parting, THIRD, bad + all_kinds() + of_other_kinds(((0,), (1,))))
        self.check(is_parting, THIRD, [((0,), thing) for thing in all_kinds()])
        self.check(is_parting, THIRD, [(thing, (1,)) for thing in all_kinds()])

    def test_is_barring(self):
        bad = [(1, 0), (0, 0), (2,), (0, 2), (-1,), (0, 1, 2), [0], (True,), (False, 1), 0, {0: True}, ((0,),)]
        self.check(is_barring, SWAP, bad + all_kinds() + of_other_kinds((0, 1)))
        # Place 2 is not wrong, though it would bar as well.
        task = (151, 2, (ONE, TWO, (3, 0)), (TWO, (5, 5), (3, 0)))
        lots = [lot for lot in lots_of((0, 1, 2)) if bars(task, lot)]
        self.assertTrue(any(2 in lot for lot in lots))
        for lot in lots_of((0, 1, 2)):
            self.assertIs(is_barring(task, lot), lot in lots and 2 not in lot)


if __name__ == "__main__":
    unittest.main()
