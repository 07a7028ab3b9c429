"""Promise [36], and what [2] says of forms, ranks and linear tasks."""

import itertools
import random
import unittest

from tests.helpers import all_kinds, of_other_kinds
from whilemoved.ranks import factors_for, is_linear_task, led_forms, rank_of, tells_all, wrong_forms

PRIMES = (151, 157, 10007)
ONE, TWO, BOTH, NONE = (1, 0), (0, 1), (1, 1), (0, 0)
SWAP = (151, 2, (ONE, TWO), (TWO, ONE))


def rank_from_behind(prime, forms):
    """The rank, the last items of forms being taken first, and the greatest forms."""
    rows, rank = [list(form) for form in sorted(forms, reverse=True)], 0
    for at in reversed(range(len(rows[0]) if rows else 0)):
        fitting = [row for row in rows if row[at] % prime]
        if fitting:
            rank += 1
            first = fitting[-1]
            rows.remove(first)
            by = pow(first[at], prime - 2, prime)
            rows = [[(x - row[at] * by * y) % prime for x, y in zip(row, first)] for row in rows]
    return rank


def summed(prime, many, forms, factors):
    return tuple(sum(factor * form[at] for factor, form in zip(factors, forms)) % prime for at in range(many))


def some_forms(chance, prime, many, length):
    """Forms with many zeros, forms alike, and forms that are sums of others."""
    found = []
    for _ in range(length):
        kind = chance.randrange(4)
        if kind == 0 and len(found) > 1:
            one, other = chance.choice(found), chance.choice(found)
            found.append(summed(prime, many, (one, other), (chance.randrange(prime), chance.randrange(prime))))
        elif kind == 1:
            found.append(tuple(chance.randrange(prime) for _ in range(many)))
        else:
            found.append(tuple(chance.choice((0, 0, 1, prime - 1)) for _ in range(many)))
    return found


class Ranks(unittest.TestCase):
    def test_elimination_in_another_order(self):
        chance, seen = random.Random(1), set()
        for _ in range(600):
            prime, many = chance.choice(PRIMES), chance.randint(1, 8)
            forms = some_forms(chance, prime, many, chance.randint(0, 10))
            rank = rank_from_behind(prime, forms)
            self.assertEqual(rank_of(prime, forms), rank, (prime, forms))
            self.assertEqual(rank_of(prime, tuple(forms)), rank)
            seen.add((rank, len(forms) > rank))
        self.assertGreater(len(seen), 12)

    def test_edges(self):
        for prime in PRIMES:
            self.assertEqual([rank_of(prime, []), rank_of(prime, ()), rank_of(prime, ((), ()))], [0, 0, 0])
            self.assertEqual([rank_of(prime, (NONE, NONE)), rank_of(prime, (ONE, ONE))], [0, 1])
            self.assertEqual(rank_of(prime, ((1, prime - 1), (prime - 1, 1))), 1)
            self.assertEqual(rank_of(prime, ((2, 1), (1, (prime + 1) // 2))), 1)
            self.assertEqual(rank_of(prime, ((2, 1), (1, (prime - 1) // 2))), 2)

    def test_all_is_reckoned_modulo_the_prime(self):
        forms = ((100, 1), (100 * 3 % 151, 3))
        self.assertEqual([rank_of(151, forms), rank_of(10007, forms)], [1, 2])

    def test_arguments_stay(self):
        forms = [[ONE, TWO, BOTH], [NONE]]
        rank_of(151, forms[0])
        factors_for(151, forms[0], (3, 4))
        self.assertEqual(forms, [[ONE, TWO, BOTH], [NONE]])


class Factors(unittest.TestCase):
    def test_none_exactly_if_the_rank_is_more(self):
        chance, seen = random.Random(2), {True: 0, False: 0}
        for _ in range(600):
            prime, many = chance.choice(PRIMES), chance.randint(1, 8)
            forms = some_forms(chance, prime, many, chance.randint(0, 8))
            form = chance.choice(forms + some_forms(chance, prime, many, 2) + [(0,) * many])
            factors = factors_for(prime, forms, form)
            there = rank_from_behind(prime, forms + [form]) == rank_from_behind(prime, forms)
            self.assertEqual(factors is not None, there)
            seen[there] += 1
            if factors is not None:
                self.check(prime, forms, form, factors)
                self.assertEqual(factors_for(prime, tuple(forms), form), factors)
        self.assertGreater(min(seen.values()), 100)

    def check(self, prime, forms, form, factors):
        self.assertIs(type(factors), tuple)
        self.assertEqual(len(factors), len(forms))
        self.assertTrue(all(type(factor) is int and 0 <= factor < prime for factor in factors))
        self.assertEqual(summed(prime, len(form), forms, factors), form)

    def test_all_sums_of_two_forms(self):
        forms = ((1, 150, 2), (3, 0, 7))
        sums = {summed(151, 3, forms, factors) for factors in itertools.product(range(151), repeat=2)}
        chance = random.Random(3)
        asked = [tuple(chance.randrange(151) for _ in range(3)) for _ in range(300)] + sorted(sums)[::40]
        for form in asked:
            factors = factors_for(151, forms, form)
            self.assertEqual(factors is not None, form in sums)
            if factors is not None:
                self.check(151, forms, form, factors)

    def test_edges(self):
        self.assertEqual(factors_for(151, (), NONE), ())
        self.assertEqual(factors_for(151, [], NONE), ())
        self.assertIsNone(factors_for(151, (), ONE))
        self.assertEqual(factors_for(151, (), ()), ())
        self.assertEqual(factors_for(151, ((), ()), ()), (0, 0))
        self.assertIsNone(factors_for(151, (NONE, ONE, ONE), TWO))
        for form in (NONE, ONE, (7, 0)):
            factors = factors_for(151, (NONE, ONE, ONE), form)
            self.check(151, (NONE, ONE, ONE), form, factors)
        self.assertEqual(factors_for(10007, (ONE, TWO), (10006, 5)), (10006, 5))
        self.assertEqual(factors_for(151, ((0, 2),), TWO), (76,))


class Layouts(unittest.TestCase):
    def test_tells_all(self):
        layout = (ONE, NONE, (5, 0), BOTH)
        for size in range(5):
            for lot in itertools.combinations(range(4), size):
                told = 3 in lot and (0 in lot or 2 in lot)
                self.assertIs(tells_all(151, 2, layout, lot), told, lot)
        self.assertIs(tells_all(151, 0, ((), ()), ()), True)
        self.assertIs(tells_all(151, 0, ((), ()), (0, 1)), True)
        self.assertIs(tells_all(151, 0, (), ()), True)
        self.assertIs(tells_all(151, 1, ((0,),), (0,)), False)
        self.assertIs(tells_all(151, 1, (), ()), False)

    def test_led_forms(self):
        layout = (ONE, TWO, NONE)
        self.assertEqual(led_forms(151, layout, ((2, ((0, 150), (1, 7))),)), (ONE, TWO, (150, 7)))
        self.assertEqual(led_forms(151, layout, ((0, ((2, 9),)),)), (NONE, TWO, NONE))
        self.assertEqual(led_forms(151, layout, ((0, ((1, 1),)), (2, ((1, 100),)))), (TWO, TWO, (0, 100)))
        self.assertEqual(led_forms(151, ((100,), (100,), (3,)), ((2, ((0, 1), (1, 1))),)), ((100,), (100,), (49,)))
        self.assertEqual(led_forms(151, ((), ()), ((0, ((1, 4),)),)), ((), ()))
        self.assertEqual(layout, (ONE, TWO, NONE))

    def test_wrong_forms(self):
        self.assertEqual(wrong_forms(SWAP), (0, 1))
        self.assertEqual(wrong_forms((151, 2, (ONE, TWO, BOTH), (ONE, None, TWO))), (2,))
        self.assertEqual(wrong_forms((151, 1, ((1,), (0,)), ((2,), (1,)))), (0, 1))
        self.assertEqual(wrong_forms((151, 1, ((0,), (1,)), (None, (1,)))), ())
        self.assertEqual(wrong_forms((151, 0, (), ())), ())


class Tasks(unittest.TestCase):
    def check(self, thing, told):
        before = repr(thing)
        self.assertIs(is_linear_task(thing), told, thing)
        self.assertEqual(repr(thing), before)

    def test_right_ones(self):
        self.check(SWAP, True)
        self.check((10007, 2, (ONE, TWO, NONE), (TWO, (10006, 5), None)), True)
        self.check((151, 0, (), ()), True)
        self.check((151, 0, ((), ()), (None, None)), True)
        self.check((151, 1, ((0,), (1,)), (None, (150,))), True)
        self.check((151, 2, (ONE, TWO, BOTH), (TWO, ONE, None)), True)

    def test_the_bounds_are_not_asked(self):
        many = 14
        own = tuple(tuple(int(at == value) for at in range(many)) for value in range(many))
        self.check((151, many, own + own, own[::-1] + (None,) * many), True)

    def test_primes(self):
        primes = [151, 157, 163, 9973, 10007]
        others = [0, 1, 2, 149, 150, 152, 153, 155, 161, 169, 187, 10001, 10003, 10005, 10006, 10009, -151]
        for prime in primes + others:
            self.check((prime, 1, ((1,),), ((2,),)), prime in primes)
        sieve = [number for number in range(140, 10020) if all(number % by for by in range(2, 110) if by < number)]
        told = [number for number in range(140, 10020) if is_linear_task((number, 0, (), ()))]
        self.assertEqual(told, [number for number in sieve if 151 <= number <= 10007])

    def test_forms(self):
        for form in ((1, 151), (-1, 1), (1,), (1, 0, 0), (), None, [1, 0], (True, 0), (1, None), ("1", 0)):
            self.check((151, 2, (form, TWO, ONE), (TWO, ONE, None)), False)
            self.check((151, 2, (ONE, TWO, ONE), (TWO, ONE, form)), form is None)
        self.check((157, 2, ((1, 151), TWO), (TWO, ONE)), True)
        self.check((151, 2, (ONE, TWO, NONE), (TWO, ONE, NONE)), False)
        self.check((151, 0, ((),), ((),)), False)

    def test_what_does_not_tell_all(self):
        self.check((151, 2, (ONE, ONE), (TWO, ONE)), False)
        self.check((151, 2, (ONE, TWO), (TWO, TWO)), False)
        self.check((151, 2, (ONE, TWO), (TWO, None)), False)
        self.check((151, 2, (), ()), False)
        self.check((151, 10 ** 39, (), ()), False)
        self.check((151, -1, (), ()), False)

    def test_other_shapes(self):
        self.check((151, 2, (ONE, TWO), (TWO, ONE, None)), False)
        self.check((151, 2, (ONE, TWO)), False)
        self.check(SWAP + (None,), False)
        self.check((True, 0, (), ()), False)
        self.check((151, False, (), ()), False)
        self.check((151, True, ((1,),), ((1,),)), False)

    def test_any_value(self):
        for thing in all_kinds() + of_other_kinds(SWAP):
            self.check(thing, False)
        for at in range(4):
            for part in all_kinds():
                thing = SWAP[:at] + (part,) + SWAP[at + 1:]
                self.check(thing, False)


if __name__ == "__main__":
    unittest.main()
