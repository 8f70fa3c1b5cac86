"""The refusals, as the interface names them."""

import unittest

from facecounts import errors
from tests.samples import REFUSALS


class Errors(unittest.TestCase):

    def test_any_refusal_is_a_value_error(self):
        self.assertEqual(errors.FaceError.__bases__, (ValueError,))

    def test_each_class_stands_straight_under_it(self):
        for name in REFUSALS:
            self.assertEqual(getattr(errors, name).__bases__, (errors.FaceError,), name)

    def test_there_are_no_others_and_none_is_another_one(self):
        self.assertEqual(sorted(kind.__name__ for kind in errors.FaceError.__subclasses__()), sorted(REFUSALS))
        self.assertEqual(len({getattr(errors, name) for name in REFUSALS}), 16)

    def test_words_may_be_given(self):
        for name in REFUSALS:
            with self.assertRaises(errors.FaceError) as caught:
                raise getattr(errors, name)("why")
            self.assertEqual(str(caught.exception), "why")


if __name__ == "__main__":
    unittest.main()
