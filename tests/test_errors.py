import inspect
import unittest

from slidefloor import errors
from slidefloor.errors import (
    BadFloor, BadMove, BadNumber, BadStanding, BadText, NothingDone, SlideError, TooMany,
)

KINDS = [BadFloor, BadStanding, BadMove, BadNumber, BadText, TooMany, NothingDone]


class ErrorsTest(unittest.TestCase):
    def test_any_refusal_is_straight_under_value_error(self):
        self.assertEqual(SlideError.__bases__, (ValueError,))

    def test_each_stands_straight_under_slide_error(self):
        for kind in KINDS:
            with self.subTest(kind=kind.__name__):
                self.assertEqual(kind.__bases__, (SlideError,))

    def test_none_is_under_another_one(self):
        for kind in KINDS:
            for other in KINDS:
                if kind is not other:
                    with self.subTest(kind=kind.__name__, other=other.__name__):
                        self.assertFalse(issubclass(kind, other))

    def test_names(self):
        names = ["BadFloor", "BadStanding", "BadMove", "BadNumber", "BadText", "TooMany", "NothingDone"]
        self.assertEqual([kind.__name__ for kind in KINDS], names)

    def test_there_is_no_other_one(self):
        found = [kind for _, kind in inspect.getmembers(errors, inspect.isclass)]
        self.assertEqual(set(found), {SlideError, *KINDS})

    def test_each_can_be_raised_and_caught_as_a_refusal(self):
        for kind in KINDS:
            with self.subTest(kind=kind.__name__):
                with self.assertRaises(SlideError) as caught:
                    raise kind("why")
                self.assertIs(type(caught.exception), kind)
                self.assertEqual(str(caught.exception), "why")


if __name__ == "__main__":
    unittest.main()
