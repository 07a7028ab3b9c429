"""Promise [38], and what [9] says of full tasks."""

import itertools
import random
import unittest

from tests.helpers import all_kinds, of_other_kinds, raised, told_by
from tests.test_ranks import rank_from_behind, summed
from tests.test_sumplans import exchanged
from whilemoved.errors import NotFull
from whilemoved.fullplans import fewest_linear, is_linear_plan, linear_front, linear_plan
from whilemoved.ranks import is_linear_task, wrong_forms

ONE, TWO, BOTH, NONE = (1, 0), (0, 1), (1, 1), (0, 0)
FULL = (151, 2, (ONE, TWO, NONE, NONE), (TWO, ONE, None, None))
PLAN = (((2, ((0, 1), (1, 1))),), ((0, ((1, 1),)),), ((1, ((0, 150), (2, 1))),))


def full_task(prime, many, spare, old, wish, row):
    """The full task of the forms of old and wish and of free places, its places being put in a row."""
    old, wish = list(old) + [(0,) * many] * spare, list(wish) + [None] * spare
    return (prime, many, tuple(old[place] for place in row), tuple(wish[place] for place in row))


def full_tasks(seed, count, most):
    """Full tasks of rings, of forms that are sums of few others, and of any forms."""
    chance, found = random.Random(seed), []
    while len(found) < count:
        prime, many, spare = chance.choice((151, 157, 10007)), chance.randint(1, most), chance.randint(0, 5)
        own = [tuple(int(at == value) for at in range(many)) for value in range(many)]
        forms = []
        for _ in "ow":
            kind = chance.randrange(3)
            numbers = (0, 0, 0, 1, prime - 1) if kind == 1 else range(prime)
            rows = [tuple(chance.choice(numbers) for _ in range(many)) for _ in own]
            forms.append(chance.sample(own, many) if kind == 0 else rows)
        old, wish = forms
        wish = [form if chance.randrange(4) else old[place] for place, form in enumerate(wish)]
        task = full_task(prime, many, spare, old, wish, chance.sample(range(many + spare), many + spare))
        if is_linear_task(task):
            found.append(task)
    return found


def does_it(task, most, plan):
    """Whether a sum plan is one for most, by the definition."""
    prime, many, layout, wish = task
    if len(plan) > most:
        return False
    for stretch in plan:
        places = [place for place, _ in stretch]
        if rank_from_behind(prime, [form for place, form in enumerate(layout) if place not in places]) < many:
            return False
        after = list(layout)
        for place, some in stretch:
            after[place] = summed(prime, many, [layout[source] for source, _ in some], [factor for _, factor in some])
        layout = tuple(after)
    return all(form in (None, there) for form, there in zip(wish, layout))


class Full(unittest.TestCase):
    def check(self, task):
        spare, wrong = task[3].count(None), len(wrong_forms(task))
        front = []
        for most in range(wrong + 4):
            aside = -(-wrong // (most - 1)) if most > 1 else spare + 1
            wanted = 0 if wrong == 0 else wrong + aside if aside <= spare else None
            self.assertEqual(fewest_linear(task, most), wanted, (task, most))
            plan = linear_plan(task, most)
            if wanted is None:
                self.assertIsNone(plan)
                continue
            self.assertIs(is_linear_plan(task, most, plan), True, (task, most, plan))
            self.assertTrue(does_it(task, most, plan))
            self.assertEqual(sum(len(stretch) for stretch in plan), wanted)
            self.assertEqual(linear_plan(task, most), plan)
            if not front or wanted < front[-1][1]:
                front.append((most, wanted))
        self.assertEqual(linear_front(task), front)
        return len(front)

    def test_tasks_of_all_kinds(self):
        seen = {}
        for task in full_tasks(1, 150, 5) + full_tasks(2, 25, 8):
            told = self.check(task)
            seen[told] = seen.get(told, 0) + 1
        self.assertGreater(min(seen[told] for told in (0, 1, 2, 3)), 5)

    def test_nothing_wrong(self):
        for task in ((151, 0, (), ()), (151, 0, ((), ()), (None, None)), (151, 2, (ONE, BOTH), (ONE, BOTH)),
                     (10007, 1, ((0,), (7,)), (None, (7,)))):
            self.assertEqual(linear_front(task), [(0, 0)])
            for most in (0, 1, 2, 9):
                self.assertEqual([fewest_linear(task, most), linear_plan(task, most)], [0, ()])

    def test_no_free_place(self):
        task = (151, 2, (ONE, TWO), (TWO, ONE))
        self.assertEqual(linear_front(task), [])
        for most in (0, 1, 2, 3, 50):
            self.assertEqual([fewest_linear(task, most), linear_plan(task, most)], [None, None])

    def test_most_of_0_and_1(self):
        for most in (0, 1):
            self.assertEqual([fewest_linear(FULL, most), linear_plan(FULL, most)], [None, None])
        one = (151, 1, ((1,), (0,)), ((2,), None))
        self.assertEqual(linear_front(one), [(2, 2)])
        self.check(one)

    def test_many_stretches(self):
        for most in (3, 4, 10, 10 ** 6):
            self.assertEqual(fewest_linear(FULL, most), 3)
            self.assertIs(is_linear_plan(FULL, most, linear_plan(FULL, most)), True)

    def test_places_that_cannot_be_written_in_their_order(self):
        # Behind a first place of a ring only the next one can be written.
        own = [tuple(int(at == value) for at in range(4)) for value in range(4)]
        for wish in itertools.permutations(own):
            for spare in (1, 2, 4):
                self.check(full_task(151, 4, spare, own, wish, range(4 + spare)))

    def test_a_form_aside_that_is_barred_by_the_sum_of_others(self):
        # (1, 0) would do for the first write, (0, 1) for the second one, but their sum is barred by the first one.
        task = (151, 2, (TWO, BOTH, NONE), (ONE, TWO, None))
        self.check(task)
        own = [tuple(int(at == value) for at in range(4)) for value in range(4)]
        chance = random.Random(3)
        for _ in range(60):
            rows = [[chance.choice(own + [tuple(map(sum, zip(*chance.sample(own, 2))))]) for _ in own] for _ in "ow"]
            task = full_task(151, 4, 2, rows[0], rows[1], range(6))
            if is_linear_task(task):
                self.check(task)

    def test_the_bounds(self):
        own = [tuple(int(at == value) for at in range(8)) for value in range(8)]
        for spare in (1, 2, 8):
            self.check(full_task(151, 8, spare, own, own[1:] + own[:1], range(8 + spare)))
            wish = [tuple([1] * at + [3] + [0] * (7 - at)) for at in range(8)]
            self.check(full_task(10007, 8, spare, own, wish, range(8 + spare)))

    def test_new_lists(self):
        linear_front(FULL).clear()
        self.assertEqual(linear_front(FULL), [(2, 4), (3, 3)])


class NotFulls(unittest.TestCase):
    def test_ahead_of_all_else(self):
        tasks = [
            (151, 2, (ONE, TWO, BOTH), (ONE, TWO, BOTH)), (151, 2, (ONE, TWO, BOTH), (TWO, ONE, None)),
            (151, 2, (ONE, TWO, NONE), (ONE, TWO, BOTH)), (151, 2, (ONE, TWO, NONE), (None, TWO, ONE)),
            (151, 1, ((1,), (1,)), ((1,), (1,))), (151, 2, (ONE, TWO, NONE, BOTH), (ONE, TWO, None, None)),
        ]
        for task in tasks:
            self.assertIs(is_linear_task(task), True)
            for most in (0, 1, 2, 9):
                for call, *given in ((fewest_linear, task, most), (linear_plan, task, most), (linear_front, task)):
                    self.assertEqual(told_by(raised(call, *given)), (NotFull, {}), (call, task))
                self.assertIsNone(raised(is_linear_plan, task, most, ()))


class Plans(unittest.TestCase):
    def check(self, task, most, thing, told):
        before = repr(thing)
        self.assertIs(is_linear_plan(task, most, thing), told, (task, most, thing))
        self.assertEqual(repr(thing), before)

    def test_that_of_the_document(self):
        for most in range(6):
            self.check(FULL, most, PLAN, most > 2)
        for length in range(3):
            self.check(FULL, 3, PLAN[:length], False)
        self.check(FULL, 4, PLAN + (((3, ((0, 9), (2, 4))),),), True)
        self.check((157,) + FULL[1:], 3, PLAN, False)

    def test_tasks_that_are_not_full(self):
        task = (151, 2, (ONE, TWO, BOTH), (TWO, ONE, None))
        self.check(task, 2, (((0, ((1, 1),)),), ((1, ((0, 150), (2, 1))),)), True)
        self.check(task, 1, (((0, ((1, 1),)), (1, ((2, 1),))),), False)
        self.check((151, 2, (ONE, TWO, BOTH), (None, BOTH, None)), 1, (((1, ((2, 1),)),),), True)
        self.check((151, 2, (ONE, TWO, BOTH), (BOTH, None, ONE)), 0, (), False)
        self.check((151, 2, (ONE, TWO, BOTH), (ONE, TWO, None)), 0, (), True)
        # What a place gets in the end has to be just the form, not a multiple of it.
        for factor in (1, 2, 150):
            self.check((151, 1, ((1,), (0,)), ((1,), (2,))), 1, (((1, ((0, factor),)),),), factor == 2)

    def test_other_places_tell_all_at_each_stretch(self):
        still = (151, 1, ((1,), (0,)), ((1,), None))
        self.check(still, 9, (((1, ((0, 7),)),), ((0, ((1, 108),)),)), True)
        self.check(still, 9, (((0, ((1, 7),)),), ((0, ((1, 7),)),)), False)
        self.check((151, 0, ((), ()), (None, None)), 1, (((0, ((1, 7),)),),), True)

    def test_any_value(self):
        for thing in all_kinds() + of_other_kinds(PLAN) + [PLAN[0], [PLAN]]:
            self.check(FULL, 3, thing, False)
        for part in all_kinds():
            for old in (PLAN[2], PLAN[2][0], PLAN[2][0][1], (2, 1), 2, 150):
                for thing in exchanged(PLAN, old, part):
                    self.check(FULL, 3, thing, False)


if __name__ == "__main__":
    unittest.main()
