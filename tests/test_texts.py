"""Promise [14]."""

import unittest

from whilemoved.texts import show_plan, show_task


class Texts(unittest.TestCase):
    def test_a_task(self):
        task = ((1, 2), (0, 1, 1, None), (1, 0, None, 1))
        self.assertEqual(show_task(task), "needs 1 2\nold 0 1 1 -\nwish 1 0 . 1")

    def test_a_task_without_values_or_places(self):
        self.assertEqual(show_task(((), (), ())), "needs\nold\nwish")
        self.assertEqual(show_task(((), (None,), (None,))), "needs\nold -\nwish .")

    def test_integers_of_more_than_one_digit(self):
        task = ((1,) * 11, tuple(range(11)) + (None,), (None,) + tuple(range(11)))
        shown = show_task(task).split("\n")
        self.assertEqual(shown[1], "old 0 1 2 3 4 5 6 7 8 9 10 -")
        self.assertEqual(shown[2], "wish . 0 1 2 3 4 5 6 7 8 9 10")

    def test_a_plan(self):
        self.assertEqual(show_plan((((3, 1),), ((0, 2), (10, 11)))), "3<1\n0<2 10<11")

    def test_a_plan_without_stretches(self):
        self.assertEqual(show_plan(()), "")


if __name__ == "__main__":
    unittest.main()
