"""Promise [34], and what [6] says of sums."""

import unittest

from tests.helpers import PIECES, TASKS, composed, raised, told_by
from tests.test_writes import STAYS, SWAP
from whilemoved.changes import beside, with_spare
from whilemoved.errors import NeedsMore
from whilemoved.fewsums import fewest_sum_writes, sum_plan
from whilemoved.layouts import places_of, wrong_places
from whilemoved.parts import counts_of
from whilemoved.sumplans import is_sum_plan
from whilemoved.writes import fewest_writes, has_plan, needs_one_more

FOUR = beside(beside(SWAP, SWAP), beside(SWAP, SWAP))


def written_in(plan):
    return [place for stretch in plan for place in places_of(stretch)]


class Plans(unittest.TestCase):
    def check(self, task, r, prime=151):
        """That there is a sum plan exactly if there is a safe plan, with just so many writes."""
        fewest, plan = fewest_sum_writes(task, r), sum_plan(prime, task, r)
        wrong, closed = counts_of(task)
        if not has_plan(task):
            self.assertEqual([fewest, plan], [None, None], task)
            return None
        self.assertEqual(fewest, wrong + -(-closed // r) + int(needs_one_more(task)), (task, r))
        self.assertIs(is_sum_plan(prime, task, r, plan), True, (task, r, plan))
        self.assertEqual(len(written_in(plan)), fewest, (task, r, plan))
        self.assertEqual(sum_plan(prime, task, r), plan)
        return fewest

    def test_all_small_tasks(self):
        for needs, old, wish in TASKS:
            if set(needs) <= {1}:
                self.check((needs, old, wish), 2)
                self.assertEqual(fewest_sum_writes((needs, old, wish), 1), fewest_writes((needs, old, wish)))

    def test_composed_tasks(self):
        seen = {}
        for task in composed(1, 250, PIECES, 10, 8):
            self.assertEqual(fewest_sum_writes(task, 1), fewest_writes(task))
            for r in (1, 2, 3, 10):
                fewest = self.check(task, r, (151, 10007)[r % 2])
                closed = counts_of(task)[1]
                key = (min(closed, 2), fewest is None, needs_one_more(task))
                seen[key] = seen.get(key, 0) + 1
        wanted = [(0, False, False), (1, True, False), (2, True, False)]
        wanted.extend([(closed, False, more) for closed in (1, 2) for more in (False, True)])
        self.assertEqual(sorted(seen), sorted(wanted))

    def test_groups_of_parts(self):
        task = with_spare(FOUR, 1)
        self.assertEqual([self.check(task, r) for r in range(1, 11)], [12, 10, 10] + [9] * 7)
        task = beside(FOUR, ((1,), (0, 0), (0, 0)))
        self.assertEqual([self.check(task, r) for r in range(1, 11)], [13, 11, 11] + [10] * 7)

    def test_room_that_is_used_in_an_open_part(self):
        # If value 0 is given up at place 0, then places 1 and 2 are closed.
        task = beside(((1, 1, 1), (0, 0, 1, 2), (2, 1, 0, 2)), SWAP)
        self.assertEqual([self.check(task, r) for r in (1, 2)], [6, 6])
        task = beside(((1, 1), (0, 0, 1), (None, 1, 0)), beside(SWAP, SWAP))
        self.assertEqual([self.check(task, r) for r in (1, 2)], [8, 7])
        task = beside(((1, 1), (0, 1, 1), (1, 0, None)), beside(SWAP, SWAP))
        self.assertEqual([self.check(task, r) for r in (1, 2)], [8, 7])

    def test_r_beyond_the_values_and_parts(self):
        task = with_spare(SWAP, 1)
        self.assertEqual([self.check(task, r) for r in (1, 2, 3, 9, 10)], [3] * 5)

    def test_nothing_wrong(self):
        for task in (((), (), ()), ((), (None,), (None,)), ((1,), (0,), (0,)), ((1,), (0, 0), (0, None))):
            for r in (1, 10):
                self.assertEqual([fewest_sum_writes(task, r), sum_plan(151, task, r)], [0, ()])

    def test_none(self):
        for task in (SWAP, FOUR, ((1, 1, 1), (0, 1, 2), (1, 2, 0)), beside(SWAP, ((1,), (0,), (0,)))):
            for r in (1, 2, 10):
                self.assertEqual([fewest_sum_writes(task, r), sum_plan(151, task, r)], [None, None])

    def test_one_more(self):
        self.assertEqual([self.check(STAYS, r) for r in (1, 2)], [4, 4])
        back = sum_plan(151, STAYS, 2)
        self.assertIn(places_of(back[-1]), [(2,), (3,)])
        self.assertEqual(places_of(back[0]), places_of(back[-1]))

    def test_primes(self):
        for prime in (151, 157, 9973, 10007):
            self.check(with_spare(FOUR, 1), 3, prime)

    def test_the_bounds(self):
        task = ((1,) * 8, tuple(range(8)) + (None, None), (1, 0, 3, 2, 5, 4, 7, 6, None, None))
        self.assertEqual([self.check(task, r) for r in (1, 2, 3, 4, 10)], [12, 10, 10, 9, 9])
        ring = ((1,) * 8, tuple(range(8)) + (0, 0), (1, 2, 3, 4, 5, 6, 7, 0, 0, 0))
        self.assertEqual(self.check(ring, 4), fewest_writes(ring))


class Needs(unittest.TestCase):
    def test_the_least_value_ahead_of_all_else(self):
        tasks = [
            (((1, 2, 3), (0, 1, 1, 2, 2, 2), (0, 1, 1, 2, 2, 2)), 1), (((2, 1), (0, 0, 1), (1, 0, 0)), 0),
            (((1, 1, 4), (0, 1, 2, 2, 2, 2), (1, 0, 2, 2, 2, 2)), 2), (((2,), (0, 0, None), (0, 0, 0)), 0),
        ]
        for task, value in tasks:
            for r in (1, 10):
                for call, *given in ((fewest_sum_writes, task, r), (sum_plan, 151, task, r)):
                    self.assertEqual(told_by(raised(call, *given)), (NeedsMore, {"value": value}))

    def test_none_where_all_are_one(self):
        task = ((1, 1), (0, 0, 1, 1), (1, 1, 0, 0))
        self.assertIsNone(raised(fewest_sum_writes, task, 1))
        self.assertEqual(len(wrong_places(task)), fewest_sum_writes(task, 1))


if __name__ == "__main__":
    unittest.main()
