"""Promise [15], and what [4] says of callables marked [R]."""

import itertools
import unittest

from tests.helpers import all_kinds, raised, told_by
from whilemoved.errors import NoText, Wrong
from whilemoved.reader import read_plan, read_task
from whilemoved.texts import show_plan, show_task

GOOD = "needs 1 2\nold 0 1 1 -\nwish 1 0 . 1"
TASK = ((1, 2), (0, 1, 1, None), (1, 0, None, 1))


class Bad(unittest.TestCase):
    def check_task(self, text, line):
        self.assertEqual(told_by(raised(read_task, text)), (NoText, {"line": line}), text)

    def check_plan(self, many, text, line):
        self.assertEqual(told_by(raised(read_plan, many, text)), (NoText, {"line": line}), text)


class GoodTasks(unittest.TestCase):
    def test_as_it_is_shown(self):
        self.assertEqual(read_task(GOOD), TASK)

    def test_blanks_remarks_and_empty_lines_mean_nothing(self):
        text = "\n  \n# a remark\n   needs  1   2  # two\n#\n\nold 0 1 1 -#behind\n \nwish 1 0 . 1 \n\n# end # of it\n"
        self.assertEqual(read_task(text), TASK)

    def test_a_remark_may_hold_anything(self):
        self.assertEqual(read_task("#needs 3\n" + GOOD + " # 1 2 - . <\n# wish"), TASK)

    def test_no_values_and_no_places(self):
        self.assertEqual(read_task("needs\nold\nwish"), ((), (), ()))
        self.assertEqual(read_task("needs\nold - -\nwish . ."), ((), (None, None), (None, None)))

    def test_nine_digits(self):
        text = "needs 1\nold" + " 0" * 3 + "\nwish . . 0"
        self.assertEqual(read_task(text), ((1,), (0, 0, 0), (None, None, 0)))

    def test_what_is_shown_is_read_back(self):
        items = (None, 0, 1)
        for old in itertools.product(items, repeat=4):
            for needs in ((1, 1), (2, 1), (1, 2)):
                task = (needs, old, tuple(reversed(old)))
                if all(old.count(value) >= needs[value] for value in (0, 1)):
                    self.assertEqual(read_task(show_task(task)), task)

    def test_it_reads_the_same_again(self):
        first = read_task(GOOD)
        raised(read_task, "needs")
        self.assertEqual(read_task(GOOD), first)


class BadTasks(Bad):
    def test_the_line_that_comes_next(self):
        for text in ("old 0", "wish", "NEEDS 1", "needs1", "need 1", "1", "-", "needs: 1", "\tneeds 1", "needs\t1"):
            self.check_task(text, 0)
        self.check_task("needs 1\nneeds 1", 1)
        self.check_task("needs 1\nwish 0\nold 0", 1)
        self.check_task("needs 1\nold 0\nold 0", 2)
        self.check_task("needs 1\n\n1 0", 2)

    def test_a_line_behind_the_third_one(self):
        self.check_task(GOOD + "\nwish 1 0 . 1", 3)
        self.check_task(GOOD + "\n\n# still\nx", 5)

    def test_needs_below_one(self):
        for word in ("0", "-1", "-", ".", "-0", "x"):
            self.check_task("needs 1 " + word + "\nold 0 1\nwish 0 1", 0)

    def test_values_that_needs_does_not_have(self):
        self.check_task("needs 1 1\nold 0 1 2\nwish 0 1 1", 1)
        self.check_task("needs 1 1\nold 0 1 1\nwish 0 1 2", 2)
        self.check_task("needs\nold 0\nwish 0", 1)
        self.check_task("needs 1\nold 0 -1\nwish 0 0", 1)

    def test_what_is_not_right(self):
        self.check_task("needs 2\nold 0 -\nwish 0 0", 1)
        self.check_task("needs 2\nold 0 0\nwish 0 .", 2)
        self.check_task("needs 1\nold\nwish", 1)

    def test_the_signs_of_open_and_free_places(self):
        self.check_task("needs 1\nold 0 .\nwish 0 .", 1)
        self.check_task("needs 1\nold 0 -\nwish 0 -", 2)
        self.check_task("needs 1\nold 0 --\nwish 0 .", 1)
        self.check_task("needs 1\nold 0 None\nwish 0 .", 1)

    def test_another_number_of_places(self):
        self.check_task("needs 1\nold 0 -\nwish 0", 2)
        self.check_task("needs 1\nold 0\n\nwish 0 .", 3)

    def test_integers_as_python_shows_them(self):
        for word in ("+1", "01", "1.", "1_0", "0x1", "1e0", "--1", "1,", "True", "\u0661", "\u00b2", "1\t"):
            self.check_task("needs " + word + "\nold 0\nwish 0", 0)
        for word in ("00", "-0", "+0", "0.0", "0L", "\u0660"):
            self.check_task("needs 1\nold " + word + "\nwish 0", 1)
            self.check_task("needs 1\nold 0\nwish " + word, 2)

    def test_integers_of_more_than_nine_digits(self):
        self.check_task("needs 999999999\nold 0\nwish 0", 1)
        self.check_task("needs 1000000000\nold 0\nwish 0", 0)
        self.check_task("needs 1\nold " + "1" * 3000 + "\nwish 0", 1)

    def test_the_first_of_two_bad_lines_is_told(self):
        self.check_task("needs 1\nold x\nwish x", 1)
        self.check_task("needs 0\nold x\nwish x", 0)
        self.check_task("\n\nneeds 1\n# so\nold 0\n\nwish 0 .\nwish", 6)
        self.check_task("needs 1\nold 0\nwish 1\nmore\nmore", 2)

    def test_a_line_that_lacks(self):
        self.check_task("", 1)
        self.check_task("# nothing\n\n  ", 3)
        self.check_task("needs 1", 1)
        self.check_task("needs 1\nold 0", 2)
        self.check_task("needs 1\nold 0\n\n", 4)

    def test_a_bad_line_comes_ahead_of_one_that_lacks(self):
        self.check_task("needs 1\nold 1\n\n\n", 1)


class GoodPlans(unittest.TestCase):
    def test_as_it_is_shown(self):
        for plan in ((), (((1, 0),),), (((0, 2), (3, 2)), ((2, 1),)), (((10, 11), (12, 0)),)):
            self.assertEqual(read_plan(13, show_plan(plan)), plan)

    def test_copies_in_any_order(self):
        for words in itertools.permutations(["2<1", "10<0", "9<1", "3<0"]):
            self.assertEqual(read_plan(11, " ".join(words)), (((2, 1), (3, 0), (9, 1), (10, 0)),))

    def test_blanks_remarks_and_empty_lines_mean_nothing(self):
        self.assertEqual(read_plan(4, "# so\n\n  3<1   2<1 # x\n \n1<0# 5<5\n\n"), (((2, 1), (3, 1)), ((1, 0),)))

    def test_texts_without_words(self):
        for text in ("", "\n", "   ", "# 1<0", "\n \n#\n"):
            self.assertEqual(read_plan(0, text), ())
            self.assertEqual(read_plan(5, text), ())

    def test_nine_digits(self):
        self.assertEqual(read_plan(10 ** 39, "999999999<0"), (((999999999, 0),),))


class BadPlans(Bad):
    def test_words_that_are_no_copies(self):
        words = ("1", "<", "1<", "<0", "1<0<2", "1>0", "1<<0", "1 <0", "1< 0", "1-0", "x", "-", "1<-", "1<.", "1<0,")
        for word in words:
            self.check_plan(4, word, 0)
            self.check_plan(4, "1<0\n2<3 " + word, 1)

    def test_integers_as_python_shows_them(self):
        for word in ("+1<0", "01<0", "1<00", "1<-0", "-1<0", "1<-1", "1<+0", "1_0<0", "\u0661<0", "True<0", "1\t<0"):
            self.check_plan(12, word, 0)

    def test_integers_of_more_than_nine_digits(self):
        self.check_plan(10 ** 39, "1000000000<0", 0)
        self.check_plan(10 ** 39, "0<1000000000", 0)

    def test_no_stretch(self):
        for line in ("1<1", "1<0 1<2", "1<0 1<0", "1<0 0<2", "0<1 1<2", "4<0", "0<4", "1<0 2<4"):
            self.check_plan(4, line, 0)
        self.check_plan(0, "1<0", 0)

    def test_the_first_of_two_bad_lines_is_told_counted_over_all(self):
        self.check_plan(4, "# so\n\n1<0\n  \n1<1\nx", 4)
        self.check_plan(4, "1<0\n0<1\n9<1\n1<9", 2)


class WrongArguments(unittest.TestCase):
    def test_a_text_that_is_none(self):
        for thing in all_kinds():
            if not isinstance(thing, str):
                before = repr(thing)
                self.assertEqual(told_by(raised(read_task, thing)), (Wrong, {"place": 0}))
                self.assertEqual(told_by(raised(read_plan, 4, thing)), (Wrong, {"place": 1}))
                self.assertEqual(repr(thing), before)

    def test_many_that_is_none(self):
        for thing in all_kinds():
            if thing != 10 ** 39:
                self.assertEqual(told_by(raised(read_plan, thing, "")), (Wrong, {"place": 0}))

    def test_the_first_wrong_argument_is_told(self):
        self.assertEqual(told_by(raised(read_plan, -1, None)), (Wrong, {"place": 0}))
        self.assertEqual(told_by(raised(read_plan, True, "1<1")), (Wrong, {"place": 0}))
        self.assertEqual(told_by(raised(read_plan, "", 4)), (Wrong, {"place": 0}))


if __name__ == "__main__":
    unittest.main()
