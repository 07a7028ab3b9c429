"""Promise [11], and what [4] says of errors."""

import unittest

from tests.helpers import all_kinds
from whilemoved import errors

FIELDS = {
    "Wrong": "place", "NoText": "line", "CannotDo": "index", "NotSafe": "index", "NotDone": "place",
    "NoPlace": "place", "NoSource": "place", "NotEven": None, "NeedsMore": "value", "NotFull": None,
    "NoNew": "value", "NotRight": "value", "NoPromise": "promise", "NoIndex": "index", "Broken": "promise",
    "TooMany": "most", "Nothing": None,
}


class Errors(unittest.TestCase):
    def test_all_are_there_and_no_others(self):
        found = [name for name, thing in vars(errors).items() if isinstance(thing, type)]
        self.assertEqual(sorted(found), sorted(["MoveError"] + list(FIELDS)))

    def test_each_is_a_subclass_of_move_error_alone(self):
        self.assertEqual(errors.MoveError.__bases__, (ValueError,))
        for name in FIELDS:
            self.assertEqual(getattr(errors, name).__bases__, (errors.MoveError,), name)

    def test_each_keeps_the_objects_it_is_given(self):
        for name, field in FIELDS.items():
            if field is None:
                self.assertEqual(vars(getattr(errors, name)()), {}, name)
                continue
            for thing in all_kinds() + ["x" * 3000, list(range(3000)), object()]:
                error = getattr(errors, name)(thing)
                self.assertEqual(list(vars(error)), [field], name)
                self.assertIs(getattr(error, field), thing, name)

    def test_each_takes_just_its_arguments(self):
        for name, field in FIELDS.items():
            many = 0 if field is None else 1
            with self.assertRaises(TypeError):
                getattr(errors, name)(*[0] * (many + 1))
            if many == 1:
                with self.assertRaises(TypeError):
                    getattr(errors, name)()

    def test_each_can_be_raised_and_shown(self):
        for name, field in FIELDS.items():
            given = [] if field is None else [[[], {None: True}]]
            with self.assertRaises(errors.MoveError) as caught:
                raise getattr(errors, name)(*given)
            self.assertIsInstance(str(caught.exception), str)


if __name__ == "__main__":
    unittest.main()
