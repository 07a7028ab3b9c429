"""Promise [31], and what [8] says of arrows that cannot be charged."""

import itertools
import unittest

from tests.helpers import TASKS, all_kinds, by_start, fewest_searched, of_other_kinds
from tests.test_charging import FIVES, FREE, MIXED, SMALL, TASK, WIDE, all_charges, borne, fills, fits
from whilemoved.bars import bar_of, bars_of, is_bar
from whilemoved.errors import Nothing
from whilemoved.parts import arrows_of


def lots(many):
    return [lot for size in range(many + 1) for lot in itertools.combinations(range(many), size)]


def is_more(task, fill, bar):
    """Whether there are more arrows from tails to heads of a bar than are borne."""
    tails, heads, pool = borne(task, fill)
    arrows = [arrow for arrow in arrows_of(task) if arrow[0] in bar[0] and arrow[1] in bar[1]]
    return len(arrows) > sum(tails[value] for value in bar[0]) + sum(heads[value] for value in bar[1]) + pool


class BarOf(unittest.TestCase):
    def test_there_is_one_exactly_if_the_arrows_cannot_be_charged(self):
        seen = {True: 0, False: 0}
        for task in TASKS[::2] + FIVES + [FREE, MIXED]:
            for fill in fills(task):
                bar = bar_of(task, dict(sorted(fill.items(), reverse=True)))
                fitting = any(fits(task, fill, charges) for charges in all_charges(task))
                self.assertIs(bar is None, fitting, (task, fill))
                if bar is not None:
                    self.assertTrue(is_more(task, fill, bar), (task, fill, bar))
                    self.assertIs(is_bar(task, fill, bar), True)
                    self.assertEqual(bar_of(task, fill), bar)
                seen[fitting] += 1
        self.assertGreater(min(seen.values()), 100)

    def test_examples(self):
        self.assertIsNone(bar_of(TASK, {}))
        self.assertEqual(bar_of(TASK, {1: 1}), ((0, 1), (0, 1)))
        self.assertEqual(bar_of(SMALL, {}), ((0, 1), (0, 1)))
        self.assertIsNone(bar_of(WIDE, {}))
        for task in (((), (), ()), ((), (None,), (None,)), ((1,), (0,), (0,)), ((1,), (0, None), (None, 0))):
            self.assertIsNone(bar_of(task, {}))


class IsBar(unittest.TestCase):
    def check(self, task, fill, thing, truth):
        before = repr(thing)
        self.assertIs(is_bar(task, fill, thing), truth, (task, fill, thing))
        self.assertEqual(repr(thing), before)

    def test_all_lots(self):
        seen = {True: 0, False: 0}
        for task in TASKS[::7] + FIVES[::5] + [FREE, MIXED, SMALL, WIDE]:
            for fill in fills(task):
                for bar in itertools.product(lots(len(task[0])), repeat=2):
                    truth = is_more(task, fill, bar)
                    self.check(task, fill, bar, truth)
                    seen[truth] += 1
        self.assertGreater(min(seen.values()), 100)

    def test_what_is_borne_counts(self):
        ring = ((1, 1, 1), (0, 1, 2, None), (1, 2, 0, None))
        self.check(ring, {}, ((0, 1, 2), (0, 1, 2)), True)
        self.check(ring, {}, ((0, 1), (1, 2)), True)
        self.check(ring, {}, ((0,), (1,)), False)
        self.check(ring, {}, ((0, 1), (0, 2)), False)
        self.check((ring[0], ring[1] + (None,), ring[2] + (None,)), {}, ((0, 1), (1, 2)), False)
        self.check((ring[0], ring[1] + (None,), ring[2] + (None,)), {}, ((0, 1, 2), (0, 1, 2)), True)

    def test_open_tails_are_no_tails(self):
        task = ((1, 1), (0, 1, None, None), (1, 0, 0, None))
        self.check(task, {}, ((0, 1), (0, 1)), False)
        self.check(task, {}, ((0, 1), (1,)), False)

    def test_any_value(self):
        bar = ((0, 1), (0, 1))
        self.check(SMALL, {}, bar, True)
        bad = [
            bar[:1], bar + ((),), (bar,), ((1, 0), (0, 1)), ((0, 0, 1), (0, 1)), ((0, 1, 2), (0, 1)),
            ((0, 1), (0, 1, 2)), ((-1, 0, 1), (0, 1)), ((None, 0, 1), (0, 1)), ({0: 1, 1: 1}, (0, 1)), ("01", "01"),
            {0: bar[0], 1: bar[1]},
            (bar[0], None), Nothing(), (Nothing(), Nothing()), ((), ()),
        ]
        for thing in all_kinds() + of_other_kinds(bar) + bad:
            self.check(SMALL, {}, thing, False)


class BarsOf(unittest.TestCase):
    def test_all_small_tasks_as_the_search_tells(self):
        for (needs, old), wishes in by_start().items():
            for wish in wishes[::2]:
                task = (needs, old, wish)
                bars = bars_of(task)
                self.assertIs(bars is None, fewest_searched(task, 2) is not None, task)
                if bars is not None:
                    self.assertEqual([fill for fill, bar in bars], fills(task))
                    self.assertTrue(all(is_more(task, fill, bar) for fill, bar in bars))
                    self.assertEqual([bar for fill, bar in bars], [bar_of(task, fill) for fill in fills(task)])

    def test_several_fills(self):
        several = 0
        for task in FIVES:
            bars = bars_of(task)
            self.assertIs(bars is None, any(bar_of(task, fill) is None for fill in fills(task)))
            if bars is not None:
                self.assertEqual(bars, [(fill, bar_of(task, fill)) for fill in fills(task)])
                several += len(bars) > 1
        self.assertGreater(several, 0)

    def test_examples(self):
        self.assertIsNone(bars_of(TASK))
        self.assertIsNone(bars_of(WIDE))
        self.assertEqual(bars_of(SMALL), [({}, ((0, 1), (0, 1)))])
        for task in (((), (), ()), ((), (None,), (None,)), ((1,), (0,), (0,))):
            self.assertIsNone(bars_of(task))

    def test_new_lists_and_dicts(self):
        told = bars_of(SMALL)
        bars_of(SMALL)[0][0][7] = 7
        bars_of(SMALL).clear()
        self.assertEqual(bars_of(SMALL), told)


if __name__ == "__main__":
    unittest.main()
