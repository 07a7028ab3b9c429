"""Promise [33], and what [2] says of sums, sum stretches, sum plans, and of what is told by so many places."""

import itertools
import random
import unittest

from tests.helpers import all_kinds, of_other_kinds, safe_plans, with_part
from tests.test_ranks import PRIMES, some_forms, summed
from whilemoved.fewest import fewest_plan
from whilemoved.judge import is_safe_plan
from whilemoved.ranks import factors_for
from whilemoved.sumplans import as_sums, forms_of, is_reading, is_sum_plan, is_sums, led_by_sums, own_form, reading
from whilemoved.sumplans import sum_form

TASK = ((1, 1, 1, 1), (0, 1, 2, 3, None), (1, 0, 3, 2, None))
PLAN = (
    ((4, ((0, 1), (2, 1))),), ((0, ((1, 1),)),), ((1, ((2, 150), (4, 1))),), ((2, ((3, 1),)),),
    ((3, ((1, 150), (4, 1))),))
WIDE = (((0, ((2, 3), (3, 150))), (1, ((3, 1),))), ((2, ((0, 7),)),))


def told_by(prime, many, layout, lot, value):
    """The least number of places outside a lot by which a value is told, all sets of places being gone through."""
    outside = [place for place in range(len(layout)) if place not in lot]
    for size in range(1, len(outside) + 1):
        for some in itertools.combinations(outside, size):
            if factors_for(prime, [layout[place] for place in some], own_form(many, value)) is not None:
                return size
    return None


def exchanged(thing, old, new):
    """All that come of a nested tuple if one part of it that is old becomes new."""
    found = [new] if thing == old and type(thing) is type(old) else []
    if isinstance(thing, tuple):
        for at, inner in enumerate(thing):
            found.extend([with_part(thing, at, part) for part in exchanged(inner, old, new)])
    return found


class Forms(unittest.TestCase):
    def test_own_forms(self):
        self.assertEqual([own_form(3, value) for value in range(3)], [(1, 0, 0), (0, 1, 0), (0, 0, 1)])
        self.assertEqual(own_form(1, 0), (1,))

    def test_forms_of_layouts(self):
        self.assertEqual(forms_of(2, (1, None, 0)), ((0, 1), (0, 0), (1, 0)))
        self.assertEqual([forms_of(0, ()), forms_of(0, (None,)), forms_of(2, ())], [(), ((),), ()])

    def test_sums(self):
        chance = random.Random(1)
        for _ in range(200):
            prime, many = chance.choice(PRIMES), chance.randint(0, 8)
            layout = tuple(some_forms(chance, prime, many, chance.randint(1, 10)))
            places = sorted(chance.sample(range(len(layout)), chance.randint(1, len(layout))))
            factors = [chance.choice((1, prime - 1, chance.randrange(1, prime))) for _ in places]
            told = sum_form(prime, many, layout, tuple(zip(places, factors)))
            self.assertEqual(told, summed(prime, many, [layout[place] for place in places], factors))

    def test_led_by_sums(self):
        layout = forms_of(4, TASK[1])
        self.assertEqual(led_by_sums(151, 4, layout, ()), layout)
        self.assertEqual(led_by_sums(151, 4, layout, PLAN[:1])[4], (1, 0, 1, 0))
        self.assertEqual(led_by_sums(151, 4, layout, PLAN)[:4], forms_of(4, (1, 0, 3, 2)))
        # What one place of a stretch gets is not asked for at the others of it.
        both = (((0, ((2, 1),)), (1, ((2, 2), (3, 1)))),)
        self.assertEqual(led_by_sums(151, 2, ((1, 0), (0, 1), (5, 5), (150, 0)), both)[:2], ((5, 5), (9, 10)))
        one_by_one = (((0, ((1, 3),)),), ((1, ((0, 2),)),))
        self.assertEqual(led_by_sums(151, 2, ((1, 0), (0, 1)), one_by_one), ((0, 3), (0, 6)))
        self.assertEqual(led_by_sums(151, 0, ((), ()), (((0, ((1, 3),)),),)), ((), ()))

    def test_as_sums(self):
        self.assertEqual(as_sums(()), ())
        self.assertEqual(as_sums((((0, 2), (1, 3)), ((2, 1),))), (((0, ((2, 1),)), (1, ((3, 1),))), ((2, ((1, 1),)),)))


class Sums(unittest.TestCase):
    def check(self, prime, places, thing, told):
        before = repr(thing)
        self.assertIs(is_sums(prime, places, thing), told, thing)
        self.assertEqual(repr(thing), before)

    def test_right_ones(self):
        for thing in ((), PLAN, PLAN[:2] * 40, as_sums((((0, 1), (2, 1)),))):
            self.check(151, 5, thing, True)
        self.check(151, 4, WIDE, True)
        self.check(151, 0, (), True)
        self.check(10007, 30, (((29, ((0, 10006),)),),), True)

    def test_places_and_factors(self):
        self.check(151, 4, PLAN, False)
        self.check(151, 3, WIDE, False)
        for factor in (0, 151, -1, 152, 10 ** 39, True, None, "1", (1,)):
            self.check(151, 3, (((0, ((1, factor),)),),), False)
        self.check(157, 3, (((0, ((1, 151),)),),), True)
        for place in (-1, 3, True, None, "1", (1,)):
            self.check(151, 3, (((0, ((place, 1),)),),), False)
            self.check(151, 3, (((place, ((0, 1),)),),), False)

    def test_order_and_doubles(self):
        for some in (((2, 1), (1, 1)), ((1, 1), (1, 2)), ((1, 1), (1, 1)), ()):
            self.check(151, 4, (((0, some),),), False)
        for stretch in (WIDE[0][::-1], WIDE[0][:1] * 2, WIDE[0][:1] + ((0, ((3, 1),)),), ()):
            self.check(151, 4, (stretch,), False)

    def test_other_lengths(self):
        for some in (((1,),), ((1, 1, 1),), ((),), (1, 1)):
            self.check(151, 4, (((0, some),),), False)
            self.check(151, 4, (((0, ((1, 1),) + some),),), False)
        for item in ((0,), (0, ((1, 1),), ((1, 1),)), (0, ((1, 1),), 1), ()):
            self.check(151, 4, ((item,),), False)

    def test_sources_among_the_places(self):
        self.check(151, 3, (((0, ((0, 1),)),),), False)
        self.check(151, 3, (((0, ((1, 1), (2, 1))), (1, ((2, 1),))),), False)
        self.check(151, 3, (((0, ((2, 1),)), (1, ((0, 1), (2, 1)))),), False)
        self.check(151, 3, (((0, ((2, 1),)), (1, ((2, 1),))),), True)
        self.check(151, 3, (((0, ((2, 1),)),), ((2, ((0, 1),)),)), True)

    def test_any_value(self):
        for thing in all_kinds() + of_other_kinds(PLAN) + of_other_kinds(WIDE) + [PLAN[0], WIDE[0][0], {}]:
            self.check(151, 5, thing, thing == ())
        for part in all_kinds():
            for old in (WIDE[0], WIDE[0][0], WIDE[0][0][1], (2, 3), 150, 3):
                for thing in exchanged(WIDE, old, part):
                    self.check(151, 4, thing, False)


class Readings(unittest.TestCase):
    def check(self, prime, many, layout, lot, r):
        told = reading(prime, many, layout, lot, r)
        least = [told_by(prime, many, layout, lot, value) for value in range(many)]
        if any(number is None or number > r for number in least):
            self.assertIsNone(told, (prime, layout, lot, r))
        else:
            self.assertIs(type(told), dict)
            self.assertEqual(list(told), list(range(many)))
            self.assertEqual([len(told[value]) for value in range(many)], least)
            self.assertIs(is_reading(prime, many, layout, lot, r, told), True)
        self.assertEqual(reading(prime, many, layout, lot, r), told)
        return told

    def test_all_sets_of_places(self):
        chance, seen = random.Random(4), {}
        for _ in range(400):
            prime, many = chance.choice(PRIMES), chance.randint(1, 4)
            layout = tuple(some_forms(chance, prime, many, chance.randint(many, 7)))
            lot = tuple(sorted(chance.sample(range(len(layout)), chance.choice((0, 0, 1, 2)) % len(layout))))
            for r in (1, 2, 3, 10):
                told = self.check(prime, many, layout, lot, r)
                most = None if told is None else max(len(some) for some in told.values())
                seen[most] = seen.get(most, 0) + 1
        self.assertGreater(min(seen[most] for most in (None, 1, 2, 3)), 10)

    def test_edges(self):
        self.assertEqual(reading(151, 0, (), (), 1), {})
        self.assertEqual(reading(151, 0, ((), ()), (0,), 3), {})
        self.assertIsNone(reading(151, 1, (), (), 1))
        self.assertIsNone(reading(151, 1, ((0,),), (), 10))
        self.assertEqual(reading(151, 1, ((3,),), (), 1), {0: ((0, 101),)})
        self.assertIsNone(reading(151, 1, ((3,),), (0,), 1))
        self.assertEqual(reading(151, 1, ((3,), (3,), (0,)), (0,), 1), {0: ((1, 101),)})

    def test_as_few_places_as_can_be(self):
        # Value 0 is told by two places, and by one as well.
        layout = ((1, 1, 0), (0, 1, 0), (0, 0, 1), (5, 0, 0))
        self.assertEqual(reading(151, 3, layout, (), 2)[0], ((3, 121),))
        self.assertEqual(reading(151, 3, layout, (3,), 2)[0], ((0, 1), (1, 150)))
        self.assertIsNone(reading(151, 3, layout, (3,), 1))

    def test_what_four_places_tell_alone(self):
        layout = ((1, 1, 1, 1), (0, 1, 0, 0), (0, 0, 1, 0), (0, 0, 0, 1), (0, 0, 0, 7))
        self.assertIsNone(reading(151, 4, layout, (), 3))
        self.assertEqual(len(self.check(151, 4, layout, (), 4)[0]), 4)
        self.assertEqual(self.check(151, 4, layout, (3,), 10)[3], ((4, 108),))

    def test_new_dicts(self):
        layout = ((1, 0), (0, 1))
        told = reading(151, 2, layout, (), 1)
        told.clear()
        self.assertEqual(reading(151, 2, layout, (), 1), {0: ((0, 1),), 1: ((1, 1),)})

    def test_the_bounds(self):
        chance = random.Random(5)
        for many in (5, 6, 7, 8):
            layout = tuple(tuple(chance.randrange(10007) for _ in range(many)) for _ in range(10))
            told = reading(10007, many, layout, (), 10)
            self.assertEqual([len(told[value]) for value in range(many)], [many] * many)
            self.assertIsNone(reading(10007, many, layout, (), many - 1))
            self.assertIs(is_reading(10007, many, layout, (), 10, told), True)
            self.assertIs(is_reading(10007, many, layout, (), many - 1, told), False)

    def test_is_reading(self):
        layout = ((1, 1), (0, 1), (1, 0), (0, 3))
        good = {0: ((0, 1), (1, 150)), 1: ((1, 1),)}
        others = [{0: ((2, 1),), 1: ((3, 101),)}, {0: ((2, 1),), 1: ((0, 1), (2, 150))}]
        for thing in [good, {1: good[1], 0: good[0]}] + others:
            self.assertIs(is_reading(151, 2, layout, (), 2, thing), True, thing)
        self.assertIs(is_reading(151, 2, layout, (), 2, {0: ((0, 1), (1, 149), (3, 101)), 1: ((1, 1),)}), False)
        self.assertIs(is_reading(151, 2, layout, (), 3, {0: ((0, 1), (1, 149), (3, 101)), 1: ((1, 1),)}), True)
        self.assertIs(is_reading(151, 2, layout, (), 1, good), False)
        self.assertIs(is_reading(151, 2, layout, (0,), 2, good), False)
        self.assertIs(is_reading(151, 2, layout, (2, 3), 2, good), True)
        self.assertIs(is_reading(157, 2, layout, (), 2, good), False)
        bad = [
            {0: good[0]}, {0: good[0], 1: good[1], 2: good[1]}, {0: good[1], 1: good[0]}, {0: good[0], True: good[1]},
            {False: good[0], 1: good[1]}, {0: good[0], "1": good[1]}, {0: good[0], None: good[1]}, {},
            (good[0], good[1]),
            {0: good[0][::-1], 1: good[1]}, {0: ((0, 1), (1, 149)), 1: good[1]}, {0: ((0, 1), (1, -1)), 1: good[1]},
            {0: good[0], 1: ((4, 1),)}, {0: good[0], 1: ()}, {0: good[0], 1: ((3, 252),)}, {0: good[0], -1: good[1]},
        ]
        bad.extend([{0: good[0], 1: thing} for thing in all_kinds() + of_other_kinds(good[1])])
        bad.extend([{0: thing, 1: good[1]} for thing in all_kinds() + of_other_kinds(good[0])])
        for thing in bad + all_kinds():
            before = repr(thing)
            self.assertIs(is_reading(151, 2, layout, (), 2, thing), False, thing)
            self.assertEqual(repr(thing), before)
        self.assertIs(is_reading(151, 0, ((),), (), 1, {}), True)
        self.assertIs(is_reading(151, 0, ((),), (), 1, ()), False)


class Plans(unittest.TestCase):
    def check(self, prime, task, r, thing, told):
        before = repr(thing)
        self.assertIs(is_sum_plan(prime, task, r, thing), told, (task, r, thing))
        self.assertEqual(repr(thing), before)

    def test_that_of_the_document(self):
        for r in range(1, 11):
            self.check(151, TASK, r, PLAN, r > 1)
        # Its factors are those of another prime.
        self.check(157, TASK, 2, PLAN, False)
        for length in range(5):
            self.check(151, TASK, 2, PLAN[:length], False)
        self.check(151, TASK, 2, PLAN + (((4, ((0, 5), (1, 9))),),), True)
        self.check(151, TASK, 2, PLAN + (((0, ((2, 1), (3, 1))),),), False)

    def test_each_wanted_place_has_just_the_own_form(self):
        task = ((1,), (0, None), (0, 0))
        for factor in (1, 2, 150):
            self.check(151, task, 1, (((1, ((0, factor),)),),), factor == 1)
        self.check(151, ((1,), (0, None), (0, None)), 1, (((1, ((0, 2),)),),), True)
        moved = (((1, ((0, 2),)),), ((0, ((1, 1),)),), ((1, ((0, 76),)),))
        self.check(151, ((1,), (0, None), (None, 0)), 1, moved, True)

    def test_each_stretch_is_asked(self):
        task = ((1, 1), (0, 1, None), (0, 1, None))
        self.check(151, task, 1, (), True)
        self.check(151, task, 10, (((0, ((1, 1),)),), ((0, ((1, 1),)),)), False)
        away = (((2, ((0, 1), (1, 1))),), ((0, ((1, 1),)),))
        back = (((0, ((1, 150), (2, 1))),),)
        self.check(151, task, 2, away + back, True)
        self.check(151, task, 1, away + back, False)
        self.check(151, task, 1, away[:1], True)
        # At the last stretch value 0 is told by one place only behind it.
        self.check(151, task, 1, (((2, ((0, 1),)),), ((0, ((1, 1),)),), ((0, ((2, 1),)),)), True)

    def test_needs_above_one(self):
        # It is asked that each value is told by r, however many places it needs.
        task = ((2, 1), (0, 0, 1), (0, 0, 1))
        self.check(151, task, 1, (((0, ((1, 1),)),),), True)
        self.check(151, task, 1, (((0, ((1, 1),)), (2, ((1, 1),))),), False)

    def test_edges(self):
        self.check(151, ((), (), ()), 1, (), True)
        self.check(151, ((), (None, None), (None, None)), 1, (), True)
        self.check(151, ((), (None, None), (None, None)), 1, (((0, ((1, 5),)),),), True)
        self.check(151, ((1, 1), (0, 1), (1, 0)), 10, (), False)
        open_source = (((0, ((1, 1), (2, 5))),),)
        self.check(151, ((1,), (None, 0, None), (0, 0, None)), 1, open_source, True)

    def test_safe_plans_are_read_by_one(self):
        tasks = [((1, 1), (0, 1, None), (1, 0, None)), ((1, 1), (0, 0, 1), (0, 1, 0)), ((1,), (0, None, 0), (0, 0, 0))]
        for task in tasks:
            for plan in safe_plans(task, 3):
                self.check(151, task, 1, as_sums(plan), True)
            plan = fewest_plan(task)
            if plan:
                self.check(10007, task, 1, as_sums(plan[:-1]), is_safe_plan(task, plan[:-1]))

    def test_any_value(self):
        still = ((1,), (0,), (0,))
        for thing in all_kinds() + of_other_kinds(PLAN) + [PLAN[0], [PLAN]]:
            self.check(151, TASK, 2, thing, False)
            self.check(151, still, 2, thing, False)
        for part in all_kinds():
            for old in (PLAN[2], PLAN[2][0], PLAN[2][0][1], (2, 150), 4, 150):
                for thing in exchanged(PLAN, old, part):
                    self.check(151, TASK, 2, thing, False)


if __name__ == "__main__":
    unittest.main()
