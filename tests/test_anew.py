"""Promise [42], and what [10] says of new contents."""

import itertools
import random
import unittest

from tests.helpers import TASKS, all_kinds, of_other_kinds, raised, told_by
from whilemoved.anew import can_change, changed, changed_one_by_one, is_fit
from whilemoved.errors import NoNew
from whilemoved.forms import is_right

LAYOUTS = sorted({(needs, old) for needs, old, wish in TASKS if needs}, key=str)
WIDE = ((2, 3, 1), (0, 1, 1, 0, None, 1, 2, 1, 0, None))


def fit_lots(needs, layout, value):
    """All lots that are fit, by the definition, ascending."""
    found = []
    for lot in itertools.combinations(range(len(layout)), needs[value]):
        left = [item for place, item in enumerate(layout) if place not in lot]
        if all(left.count(other) >= need for other, need in enumerate(needs)):
            found.append(lot)
    return sorted(found)


def behind(layout, value, lot):
    found = []
    for place, item in enumerate(layout):
        found.append(value if place in lot else None if item == value else item)
    return tuple(found)


class Anew(unittest.TestCase):
    def check(self, needs, layout, value):
        lots = fit_lots(needs, layout, value)
        self.assertIs(can_change(needs, layout, value), len(lots) > 0)
        spare = layout.count(None) + sum(layout.count(other) - need for other, need in enumerate(needs))
        self.assertEqual(len(lots) > 0, spare >= needs[value])
        if lots:
            after = behind(layout, value, lots[0])
            self.assertEqual(changed(needs, layout, value), (lots[0], after))
            self.assertTrue(is_right(needs, after))
        else:
            self.assertEqual(told_by(raised(changed, needs, layout, value)), (NoNew, {"value": value}))
        return len(lots) > 0

    def test_all_lots_of_small_layouts(self):
        seen = {True: 0, False: 0}
        for needs, layout in LAYOUTS:
            for value in range(len(needs)):
                seen[self.check(needs, layout, value)] += 1
                lots = fit_lots(needs, layout, value)
                for size in range(len(layout) + 1):
                    for lot in itertools.combinations(range(len(layout)), size):
                        self.assertIs(is_fit(needs, layout, value, lot), lot in lots)
        self.assertGreater(min(seen.values()), 50)

    def test_larger_layouts(self):
        chance, seen = random.Random(1), {True: 0, False: 0}
        for _ in range(150):
            needs = tuple(chance.randint(1, 4) for _ in range(chance.randint(1, 4)))
            rows = [value for value, need in enumerate(needs) for _ in range(need)]
            rows += [chance.choice([None] + list(range(len(needs)))) for _ in range(chance.randint(0, 4))]
            chance.shuffle(rows)
            for value in range(len(needs)):
                seen[self.check(needs, tuple(rows), value)] += 1
        self.assertGreater(min(seen.values()), 30)

    def test_places_that_have_the_old_content(self):
        # Place 1 has the value, and room; place 4 keeps the old content until then, and is open behind.
        self.assertEqual(changed((1,), (0, 0), 0), ((0,), (0, None)))
        self.assertEqual(changed((2, 1), (0, 0, 1, 0, None), 0), ((0, 4), (0, None, 1, None, 0)))
        self.assertEqual(changed((1, 1), (0, 1, 1), 0), ((1,), (None, 0, 1)))

    def test_just_enough_and_just_not_enough(self):
        self.assertIs(can_change((2,), (0, 0, 0), 0), False)
        self.assertEqual(changed((2,), (0, 0, 0, 0), 0), ((0, 1), (0, 0, None, None)))
        self.assertEqual(changed((2,), (0, 0, None, None), 0), ((2, 3), (None, None, 0, 0)))
        self.assertIs(can_change((2, 1), (0, 0, 1, None), 0), False)
        self.assertIs(can_change((2, 1), (0, 0, 1, None), 1), True)

    def test_no_room(self):
        for value in (0, 1):
            self.assertIs(can_change((1, 1), (0, 1), value), False)
            error = raised(changed, (1, 1), (0, 1), value)
            self.assertEqual(told_by(error), (NoNew, {"value": value}))

    def test_the_bounds(self):
        needs, layout = (4, 4, 4), (0, 1, 2) * 4 + (None, 1, None, 0)
        after = (2, 2, None, 0, 1, None, 0, 1, None, 0, 1, None, 2, 1, 2, 0)
        self.assertEqual(changed(needs, layout, 2), ((0, 1, 12, 14), after))
        self.check(needs, layout, 0)
        self.assertIs(can_change((1,) * 12, tuple(range(12)) + (None,) * 4, 11), True)
        full = (4, 4, 4, 4), (0, 1, 2, 3) * 4
        self.assertIs(can_change(full[0], full[1], 3), False)

    def test_is_fit_of_any_value(self):
        needs, layout = WIDE
        self.assertIs(is_fit(needs, layout, 0, (0, 1)), True)
        self.assertIs(is_fit(needs, layout, 0, (4, 9)), True)
        bad = [(1, 0), (4,), (4, 5, 9), (0, 3), (4, 4), (9, 10), (-1, 4), (6, 9), [4, 9], {4: True, 9: True}, (True, 4)]
        for thing in bad + all_kinds() + of_other_kinds((0, 1)) + of_other_kinds((4, 9)):
            before = repr(thing)
            self.assertIs(is_fit(needs, layout, 0, thing), False, thing)
            self.assertEqual(repr(thing), before)


class OneByOne(unittest.TestCase):
    def test_each_as_changed_does(self):
        seen = {True: 0, False: 0}
        for needs, start in LAYOUTS[::3]:
            for values in itertools.product(range(len(needs)), repeat=3):
                layout, lots, failed = start, [], None
                for value in values:
                    found = fit_lots(needs, layout, value)
                    if not found:
                        failed = value
                        break
                    lots.append(found[0])
                    layout = behind(layout, value, found[0])
                if failed is None:
                    self.assertEqual(changed_one_by_one(needs, start, values), (tuple(lots), layout))
                else:
                    error = raised(changed_one_by_one, needs, start, values)
                    self.assertEqual(told_by(error), (NoNew, {"value": failed}))
                seen[failed is None] += 1
        self.assertGreater(min(seen.values()), 50)

    def test_no_values(self):
        self.assertEqual(changed_one_by_one((1,), (0, None), ()), ((), (0, None)))
        self.assertEqual(changed_one_by_one((), (), ()), ((), ()))

    def test_the_same_value_several_times(self):
        self.assertEqual(changed_one_by_one((1,), (0, None), (0, 0, 0)), (((1,), (0,), (1,)), (None, 0)))

    def test_the_first_value_that_finds_none(self):
        needs, layout = (2, 1), (0, 0, 1, None)
        self.assertEqual(told_by(raised(changed_one_by_one, needs, layout, (1, 0, 1))), (NoNew, {"value": 0}))
        self.assertEqual(changed_one_by_one(needs, layout + (1,), (1, 0)), (((2,), (3, 4)), (None, None, 1, 0, 0)))


if __name__ == "__main__":
    unittest.main()
