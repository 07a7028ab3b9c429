"""Promise [22], and what [5] says of rows that fall into fewest safe stretches."""

import itertools
import unittest

from tests.helpers import all_kinds, of_other_kinds
from whilemoved.errors import Nothing
from whilemoved.forms import is_plan, is_stretch
from whilemoved.judge import is_safe
from whilemoved.layouts import can_be_done, led, led_by
from whilemoved.rows import cut_row, is_row, is_row_paper, is_whole_run, row_paper

NEEDS, OLD = (1, 1), (0, 1, None)
ROW = ((2, 0), (0, 1), (1, 2))
WIDE, BOTH = (0, 1, None, None), ((2, 0), (3, 1), (0, 3))
LAYOUTS = [((1, 1), (0, 1, None, None)), ((2, 1), (0, 1, 0, None)), ((1,), (0, 0, None)), ((1, 1), (0, 0, 1, 1))]


def rows_from(needs, layout, most):
    """All rows at a layout of so many copies at the most."""
    found = [()]
    for pair in itertools.permutations(range(len(layout)), 2):
        if most > 0 and can_be_done(layout, (pair,)) and is_safe(needs, layout, (pair,)):
            found.extend([(pair,) + row for row in rows_from(needs, led(layout, (pair,)), most - 1)])
    return found


ROWS = [(needs, layout, row) for needs, layout in LAYOUTS for row in rows_from(needs, layout, 4)[::3]]


def whole(needs, layout, row, begin, end):
    """Whether a run is whole, as the definition says it."""
    stretch = tuple(sorted(row[begin:end]))
    ahead = led_by(layout, tuple((copy,) for copy in row[:begin]))
    return is_stretch(len(layout), stretch) and can_be_done(ahead, stretch) and is_safe(needs, ahead, stretch)


def fewest_runs(needs, layout, row):
    """The least number of whole runs into which a row falls, of all ways to cut it."""
    fewest = [0]
    for end in range(1, len(row) + 1):
        fewest.append(1 + min(fewest[begin] for begin in range(end) if whole(needs, layout, row, begin, end)))
    return fewest[-1]


def is_paper(needs, layout, row, thing):
    for one, other in itertools.combinations(thing, 2):
        if not one < other or len(set(range(*one)) & set(range(*other))) > 1:
            return False
    return not any(whole(needs, layout, row, *run) for run in thing)


class IsRow(unittest.TestCase):
    def test_safe_one_by_one(self):
        self.assertIs(is_row(NEEDS, OLD, ROW), True)
        self.assertIs(is_row(NEEDS, OLD, ROW[:2]), True)
        self.assertIs(is_row(NEEDS, OLD, ROW[1:]), False)
        self.assertIs(is_row(NEEDS, OLD, ROW[:1] + ROW[2:]), False)
        self.assertIs(is_row(NEEDS, OLD, ((2, 0), (2, 1), (2, 0))), True)

    def test_no_copies(self):
        for needs, layout in LAYOUTS + [((), ()), ((3,), (0,)), ((1,), (None,))]:
            self.assertIs(is_row(needs, layout, ()), True)
            self.assertIs(is_row(needs, layout, []), False)
        self.assertIs(is_row((), (None, None), ((0, 1),)), False)

    def test_copies_that_cannot_be_done_or_are_none(self):
        bad = [(0, 0), (2, 2), (3, 0), (0, 3), (-1, 0), (2, -1), (2,), (2, 0, 1), (), (2, None), ("2", 0), [2, 0]]
        for copy in bad:
            self.assertIs(is_row(NEEDS, OLD, (copy,)), False, copy)
            self.assertIs(is_row(NEEDS, OLD, ((2, 0), copy)), False, copy)
        self.assertIs(is_row(NEEDS, WIDE, ((3, 2),)), False)
        self.assertIs(is_row(NEEDS, WIDE, ((2, 0), (3, 2))), True)

    def test_a_layout_that_is_not_right(self):
        self.assertIs(is_row((2, 1), (0, 1, None), ((2, 0),)), False)
        self.assertIs(is_row((1, 2), (0, 0, 1, None), ((3, 0),)), False)

    def test_all_pairs_of_pairs(self):
        for needs, layout in LAYOUTS:
            pairs = list(itertools.product(range(len(layout)), repeat=2))
            for one, other in itertools.product(pairs, repeat=2):
                truth, ahead = True, layout
                for pair in (one, other):
                    truth = truth and is_stretch(len(layout), (pair,)) and can_be_done(ahead, (pair,))
                    truth = truth and is_safe(needs, ahead, (pair,))
                    ahead = led(ahead, (pair,)) if truth else ahead
                self.assertIs(is_row(needs, layout, (one, other)), truth)

    def test_any_value(self):
        bad = [ROW + (None,), (ROW,), ROW[0], ROW + ((),), {(2, 0): 1}, {0: (2, 0)}, "20", Nothing()]
        for thing in [thing for thing in all_kinds() if thing != ()] + of_other_kinds(ROW) + bad:
            before = repr(thing)
            self.assertIs(is_row(NEEDS, OLD, thing), False, thing)
            self.assertEqual(repr(thing), before)


class Runs(unittest.TestCase):
    def test_whole_runs(self):
        self.assertIs(is_whole_run(NEEDS, WIDE, BOTH, 0, 2), True)
        self.assertIs(is_whole_run(NEEDS, WIDE, BOTH, 0, 3), False)
        self.assertIs(is_whole_run(NEEDS, WIDE, BOTH, 1, 3), False)
        self.assertIs(is_whole_run(NEEDS, WIDE, ((3, 1), (2, 0)), 0, 2), True)
        self.assertIs(is_whole_run(NEEDS, WIDE, ((2, 0), (2, 1)), 0, 2), False)
        self.assertIs(is_whole_run((2,), (0, 0, 0, None), ((1, 0), (2, 0)), 0, 2), False)
        self.assertIs(is_whole_run((1,), (0, 0, 0, None), ((1, 0), (2, 0)), 0, 2), True)

    def test_the_layout_ahead_counts(self):
        row = ((2, 0), (3, 0), (0, 2))
        self.assertIs(is_whole_run((1, 1), WIDE, row, 2, 3), True)
        self.assertIs(is_whole_run((1, 1), WIDE, row, 1, 3), False)
        row = ((2, 0), (0, 1), (1, 0))
        self.assertIs(is_whole_run((1, 1), OLD, row, 2, 3), True)

    def test_all_runs_as_the_definition_tells(self):
        seen = {True: 0, False: 0}
        for needs, layout, row in ROWS:
            for begin, end in itertools.combinations(range(len(row) + 1), 2):
                truth = whole(needs, layout, row, begin, end)
                self.assertIs(is_whole_run(needs, layout, row, begin, end), truth)
                seen[truth] += 1
                self.assertTrue(truth or end - begin > 1)
                for inner in itertools.combinations(range(begin, end + 1), 2):
                    self.assertTrue(not truth or is_whole_run(needs, layout, row, *inner))
        self.assertGreater(min(seen.values()), 100)


class Cut(unittest.TestCase):
    def test_examples(self):
        self.assertEqual(cut_row(NEEDS, OLD, ROW), (((2, 0),), ((0, 1),), ((1, 2),)))
        self.assertEqual(row_paper(NEEDS, OLD, ROW), ((0, 2), (1, 3)))
        self.assertEqual(cut_row(NEEDS, WIDE, ((3, 1), (2, 0))), (((2, 0), (3, 1)),))
        self.assertEqual(row_paper(NEEDS, WIDE, ((3, 1), (2, 0))), ())
        self.assertEqual(cut_row(NEEDS, WIDE, ((2, 0), (2, 0))), (((2, 0),), ((2, 0),)))
        longer = ((2, 0), (3, 1), (0, 3), (1, 2))
        self.assertEqual(cut_row(NEEDS, WIDE, longer), (((2, 0), (3, 1)), ((0, 3), (1, 2))))
        self.assertEqual(row_paper(NEEDS, WIDE, longer), ((0, 3),))

    def test_no_copies_and_one(self):
        for needs, layout in LAYOUTS + [((), ()), ((), (None,))]:
            self.assertEqual((cut_row(needs, layout, ()), row_paper(needs, layout, ())), ((), ()))
            self.assertIs(is_row_paper(needs, layout, (), ()), True)
        self.assertEqual((cut_row(NEEDS, OLD, ROW[:1]), row_paper(NEEDS, OLD, ROW[:1])), ((((2, 0),),), ()))

    def test_each_run_from_the_left_is_as_long_as_can_be_and_no_fewer_do_it(self):
        several = 0
        for needs, layout, row in ROWS:
            plan, paper = cut_row(needs, layout, row), row_paper(needs, layout, row)
            self.assertIs(is_plan(len(layout), plan), True)
            begin, runs = 0, []
            for stretch in plan:
                end = begin + len(stretch)
                self.assertEqual(stretch, tuple(sorted(row[begin:end])))
                self.assertTrue(whole(needs, layout, row, begin, end))
                self.assertTrue(end == len(row) or not whole(needs, layout, row, begin, end + 1))
                runs.append((begin, end + 1))
                begin = end
            self.assertEqual(begin, len(row))
            self.assertEqual(len(plan), fewest_runs(needs, layout, row))
            self.assertEqual(led_by(layout, plan), led_by(layout, tuple((copy,) for copy in row)))
            self.assertEqual(paper, tuple(runs[:-1]))
            self.assertIs(is_row_paper(needs, layout, row, paper), True)
            several += len(plan) > 2
        self.assertGreater(several, 100)


class Papers(unittest.TestCase):
    def check(self, thing, truth, row=ROW, layout=OLD):
        before = repr(thing)
        self.assertIs(is_row_paper(NEEDS, layout, row, thing), truth, thing)
        self.assertEqual(repr(thing), before)

    def test_examples(self):
        for thing in ((), ((0, 2),), ((1, 3),), ((0, 3),), ((0, 2), (1, 3))):
            self.check(thing, True)
        bad = [
            ((1, 3), (0, 2)), ((0, 2), (0, 2)), ((0, 2), (0, 3)), ((0, 3), (1, 3)), ((0, 1),), ((0, 2), (2, 3)),
            ((0, 4),), ((-1, 2),), ((2, 0),), ((1, 1),), ((3, 4),), ((3, 3),), ((0, 2, 1),), ((0,),), (0, 2),
        ]
        for thing in bad:
            self.check(thing, False)
        self.check(((0, 3),), True, BOTH, WIDE)
        self.check(((0, 2),), False, BOTH, WIDE)

    def test_runs_that_are_far_from_one_another(self):
        row = ROW + ((2, 1), (1, 0))
        for thing in (((0, 2), (1, 3), (3, 5)), ((0, 2), (1, 4)), ((0, 4), (3, 5))):
            self.check(thing, is_paper(NEEDS, OLD, row, thing), row)
        self.check(((0, 5), (1, 3)), False, row)
        self.check(((0, 5), (1, 2), (3, 5)), False, row)
        self.check(((0, 4), (1, 2), (2, 4)), False, row)

    def test_all_lots_of_runs(self):
        seen = {True: 0, False: 0}
        for needs, layout, row in ROWS[::40]:
            runs, most = list(itertools.combinations(range(len(row) + 1), 2)), 0
            for size in range(4):
                for thing in itertools.product(runs, repeat=size):
                    truth = is_paper(needs, layout, row, thing)
                    self.assertIs(is_row_paper(needs, layout, row, thing), truth)
                    seen[truth] += 1
                    most = max(most, size if truth else 0)
            self.assertLess(most, max(1, len(cut_row(needs, layout, row))))
        self.assertGreater(min(seen.values()), 100)

    def test_any_value(self):
        paper = ((0, 2), (1, 3))
        bad = [paper + (None,), (paper,), (None,), {(0, 2): 1}, paper + ((),), "", [paper], (Nothing(),)]
        for thing in [thing for thing in all_kinds() if thing != ()] + of_other_kinds(paper) + bad:
            self.check(thing, False)
        self.check([], False, ())
        self.check({}, False, ())


if __name__ == "__main__":
    unittest.main()
