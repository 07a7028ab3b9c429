"""Promise [40], and what [10] says of prices."""

import heapq
import itertools
import random
import unittest

from tests.helpers import TASKS, WIDE_PIECES, composed, even_tasks, fitting, safe_plans, single_writes
from tests.test_writes import STAYS, SWAP
from whilemoved.changes import beside, with_spare
from whilemoved.judge import is_safe_plan
from whilemoved.layouts import staying_places, wrong_places
from whilemoved.parts import closed_parts, open_parts
from whilemoved.prices import cheapest_plan, least_price, price_of, price_parts
from whilemoved.writes import fewest_writes, has_plan

CHEAP = (0, 0, 1, 2, 3, 40, 90)


def prices_to(needs, old, prices):
    """The dict from each layout to which safe copies lead to their least price, all plans being gone through.

    What a safe stretch does its copies do one by one, each of them safe.
    """
    best, ahead, done, count = {old: 0}, [(0, 0, old)], set(), itertools.count(1)
    while ahead:
        price, _, layout = heapq.heappop(ahead)
        if layout in done:
            continue
        done.add(layout)
        for place, after in single_writes(needs, layout):
            more = price + prices[place]
            if more < best.get(after, more + 1):
                best[after] = more
                heapq.heappush(ahead, (more, next(count), after))
    return best


def least_searched(task, prices):
    best = prices_to(task[0], task[1], prices)
    return min([price for layout, price in best.items() if fitting(task[2], layout)], default=None)


def some_prices(chance, task):
    """Prices of which those of one kind of places are often high."""
    wrong, high = wrong_places(task), chance.choice(("wrong", "staying", "free", "none"))
    found = []
    for place, item in enumerate(task[2]):
        kind = "wrong" if place in wrong else "free" if item is None else "staying"
        found.append(chance.choice(CHEAP) + (100 if kind == high else 0))
    return tuple(found)


def by_the_words(task, prices):
    """What the point says is added to the price of the wrong places, c being above 0, word by word."""
    needs, old, wish = task
    c = len(closed_parts(task))
    in_open = [place for part in open_parts(task) for place in part]
    in_closed = [place for part in closed_parts(task) for place in part]
    heads = [wish[place] for place in in_open]
    both = [old[place] for place in in_closed] + [wish[place] for place in in_closed]
    first, rows, staying_too = [], [], []
    for place, price in enumerate(prices):
        if wish[place] is None or place in in_open:
            first.append(price)
        elif place in staying_places(task) and (old.count(old[place]) > needs[old[place]] or old[place] in heads):
            first.append(2 * price)
            staying_too.append(place)
    for place, price in enumerate(prices):
        if place not in staying_places(task):
            rows.append(min(first) + (c - 1) * price)
        else:
            rows.append(min(first) + (c + 1) * price)
            if old[place] in both:
                rows.append(min(first) + c * price)
            if place in staying_too:
                rows.append((c + 1) * price)
    return min(rows)


class Checks(unittest.TestCase):
    def check(self, task, prices):
        least, parts, plan = least_price(task, prices), price_parts(task, prices), cheapest_plan(task, prices)
        if not has_plan(task):
            self.assertEqual([least, parts, plan], [None, None, None], task)
            return None
        wrong = sum(prices[place] for place in wrong_places(task))
        aside = by_the_words(task, prices) if closed_parts(task) else 0
        self.assertEqual([parts, least], [(wrong, aside), wrong + aside], (task, prices))
        self.assertIs(is_safe_plan(task, plan), True, (task, prices, plan))
        self.assertEqual(price_of(plan, prices), least, (task, prices, plan))
        self.assertEqual(cheapest_plan(task, prices), plan)
        return least

    def check_searched(self, task, prices):
        self.assertEqual(self.check(task, prices), least_searched(task, prices), (task, prices))


class Prices(Checks):
    def test_all_small_tasks(self):
        chance = random.Random(1)
        for task in TASKS[::7] + [task for task in TASKS if closed_parts(task) and has_plan(task)]:
            self.check_searched(task, some_prices(chance, task))

    def test_even_tasks(self):
        chance = random.Random(2)
        for needs, spare in (((1, 1, 1, 1), 1), ((2, 2), 1), ((2, 1), 2)):
            for task in even_tasks(needs, spare):
                self.check_searched(task, some_prices(chance, task))

    def test_composed_tasks(self):
        chance, seen = random.Random(3), {}
        for task in composed(4, 800, [SWAP] * 9 + WIDE_PIECES, 7, 5):
            if len(closed_parts(task)) > 0:
                self.check_searched(task, some_prices(chance, task))
                key = (min(len(closed_parts(task)), 2), len(open_parts(task)) > 0, has_plan(task))
                seen[key] = seen.get(key, 0) + 1
        self.assertGreater(min(seen[key] for key in itertools.product((1, 2), (False, True), (True,))), 3)

    def test_large_tasks(self):
        chance = random.Random(5)
        for task in composed(6, 500, [SWAP] + WIDE_PIECES, 16, 12):
            self.check(task, some_prices(chance, task))

    def test_plans_of_wider_stretches_are_no_cheaper(self):
        for task in (with_spare(SWAP, 1), STAYS, ((1, 1), (0, 0, 1), (1, 0, 1))):
            for prices in itertools.product((0, 3, 50), repeat=len(task[1])):
                plans = safe_plans(task, 3)
                if plans:
                    self.assertLessEqual(least_price(task, prices), min(price_of(plan, prices) for plan in plans))


class Edges(Checks):
    def test_all_prices_alike(self):
        for task in TASKS[::5]:
            fewest = fewest_writes(task)
            for price in (0, 1, 1000):
                least = self.check(task, (price,) * len(task[1]))
                if fewest is not None:
                    self.assertEqual(least, price * fewest)

    def test_nothing_wrong(self):
        for task in (((), (), ()), ((), (None,), (None,)), ((1,), (0, 0), (0, None))):
            prices = (7,) * len(task[1])
            self.assertEqual([price_parts(task, prices), cheapest_plan(task, prices)], [(0, 0), ()])

    def test_no_room(self):
        for task in (SWAP, beside(SWAP, ((1,), (0,), (0,)))):
            prices = (0,) * len(task[1])
            told = [price_parts(task, prices), least_price(task, prices), cheapest_plan(task, prices)]
            self.assertEqual(told, [None, None, None])

    def test_each_way(self):
        three = beside(beside(SWAP, SWAP), SWAP)
        # All but the first copy to a place that is wrong, then to a free one, not the first.
        self.check_searched(with_spare(three, 1), (9, 9, 9, 2, 9, 9, 30))
        self.assertEqual(price_parts(with_spare(three, 1), (9, 9, 9, 2, 9, 9, 30))[1], 34)
        self.assertEqual(price_parts(with_spare(three, 2), (9,) * 6 + (5, 30))[1], 15)
        # Value 0 is a tail at place 0, too, which is written ahead of place 1: only then place 1 has room.
        task = with_spare(beside(((2, 1, 1), (0, 0, 1, 2), (1, 2, 0, 0)), SWAP), 1)
        self.check_searched(task, (9, 1, 9, 9, 9, 9, 5))
        self.assertEqual(price_parts(task, (9, 1, 9, 9, 9, 9, 5))[1], 6)
        # A place that stays, with a value of a closed part.
        task = with_spare(beside(((2, 1), (0, 0, 1), (0, 1, 0)), SWAP), 1)
        self.check_searched(task, (1, 50, 50, 50, 50, 60))
        self.assertEqual(price_parts(task, (1, 50, 50, 50, 50, 60))[1], 62)
        # One that stays and serves first, at c + 1 times its price.
        task = beside(beside(SWAP, SWAP), ((1,), (0, 0), (0, 0)))
        self.assertEqual(price_parts(task, (9, 9, 9, 9, 3, 4))[1], 9)
        self.assertEqual(price_parts(task, (9, 9, 0, 9, 3, 4))[1], 6)
        # Any place that stays: its value stands nowhere else, and is copied aside ahead.
        task = with_spare(beside(beside(SWAP, SWAP), ((1,), (0,), (0,))), 1)
        self.check_searched(task, (50, 50, 50, 50, 1, 20))
        self.assertEqual(price_parts(task, (50, 50, 50, 50, 1, 20))[1], 23)

    def test_places_that_serve_first_in_open_parts(self):
        # Place 0 is free, but has room only behind the write of value 0 at place 2, which is in an open part.
        opened = ((1, 1), (0, 1, None), (None, 1, 0))
        for prices in itertools.product((1, 9), repeat=5):
            self.check_searched(beside(opened, SWAP), prices)
        # Value 2 stays where it is, but is the head of an arrow: then its place has room.
        head = ((1, 1), (0, 0, 1), (0, 1, 1))
        for prices in itertools.product((1, 9), repeat=5):
            self.check_searched(beside(head, SWAP), prices)

    def test_price_of(self):
        self.assertEqual(price_of((), (5, 6)), 0)
        self.assertEqual(price_of((((0, 2), (1, 2)), ((2, 0),), ((0, 2),)), (5, 60, 700)), 770)
        self.assertEqual(price_of((((0, 1),),), (0, 9)), 0)


if __name__ == "__main__":
    unittest.main()
