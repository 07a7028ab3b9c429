"""Promise [39]."""

import itertools
import random
import unittest

from tests.test_ranks import PRIMES, rank_from_behind, some_forms
from whilemoved.losses import borne, breaking_lot

ONE, TWO, BOTH, NONE = (1, 0), (0, 1), (1, 1), (0, 0)


def told_without(prime, many, layout, lot):
    return rank_from_behind(prime, [form for place, form in enumerate(layout) if place not in lot]) == many


def breaking_by_the_definition(prime, many, layout, lot):
    outside = [place for place in range(len(layout)) if place not in lot]
    for size in range(len(outside) + 1):
        found = [
            some for some in itertools.combinations(outside, size) if not told_without(prime, many, layout, lot + some)]
        if found:
            return min(found)
    return None


def borne_by_the_definition(prime, many, layout, lot):
    outside = [place for place in range(len(layout)) if place not in lot]
    good = [
        size for size in range(len(outside) + 1)
        if all(told_without(prime, many, layout, lot + some) for some in itertools.combinations(outside, size))]
    return max(good, default=None)


class Losses(unittest.TestCase):
    def check(self, prime, many, layout, lot):
        told = breaking_lot(prime, many, layout, lot)
        self.assertEqual(told, breaking_by_the_definition(prime, many, layout, lot), (prime, layout, lot))
        number = borne(prime, many, layout, lot)
        self.assertEqual(number, borne_by_the_definition(prime, many, layout, lot), (prime, layout, lot))
        return number

    def test_all_lots_of_small_layouts(self):
        chance, seen = random.Random(1), {}
        for _ in range(300):
            prime, many = chance.choice(PRIMES), chance.randint(0, 4)
            layout = tuple(some_forms(chance, prime, many, chance.randint(0, 6)))
            for size in range(min(3, len(layout) + 1)):
                lot = tuple(sorted(chance.sample(range(len(layout)), size)))
                number = self.check(prime, many, layout, lot)
                seen[number] = seen.get(number, 0) + 1
        self.assertGreater(min(seen[number] for number in (None, 0, 1, 2)), 10)

    def test_no_values(self):
        for layout, lot, number in (((), (), 0), (((), (), ()), (), 3), (((), (), ()), (0, 2), 1)):
            self.assertIsNone(breaking_lot(151, 0, layout, lot))
            self.assertEqual(borne(151, 0, layout, lot), number)

    def test_not_told_even_without_a_loss(self):
        for layout, lot in (((), ()), ((ONE, ONE, NONE), ()), ((ONE, TWO), (1,)), ((ONE, TWO), (0, 1))):
            self.assertEqual([breaking_lot(151, 2, layout, lot), borne(151, 2, layout, lot)], [(), None])

    def test_the_least_of_the_shortest_lots(self):
        self.assertEqual(breaking_lot(151, 2, (TWO, ONE, ONE, NONE, (5, 0)), ()), (0,))
        self.assertEqual(breaking_lot(151, 2, (ONE, ONE, TWO, TWO, BOTH), ()), (0, 1, 4))
        self.assertEqual(breaking_lot(151, 2, (ONE, ONE, TWO, TWO, BOTH), (4,)), (0, 1))
        self.assertEqual(breaking_lot(151, 2, (ONE, ONE, TWO, TWO, BOTH), (0,)), (1, 4))
        self.assertEqual(breaking_lot(151, 1, ((0,), (1,), (0,), (9,)), ()), (1, 3))
        self.assertEqual(borne(151, 1, ((0,), (1,), (0,), (9,)), ()), 1)

    def test_the_bounds(self):
        powers = tuple(tuple(base ** at % 151 for at in range(8)) for base in range(1, 11))
        self.assertEqual([breaking_lot(151, 8, powers, ()), borne(151, 8, powers, ())], [(0, 1, 2), 2])
        self.assertEqual([breaking_lot(151, 8, powers, (0, 1)), borne(151, 8, powers, (0, 1))], [(2,), 0])
        self.assertEqual(breaking_lot(10007, 1, ((3,),) * 10, ()), tuple(range(10)))
        self.assertEqual(borne(10007, 1, ((3,),) * 10, (4,)), 8)


if __name__ == "__main__":
    unittest.main()
