"""[63]: which class lies directly below which, and what each error keeps."""

import unittest

from plugproof import errors, storeerrors
from plugproof.errors import BadImage, BadScript, BadShape, Refused, StoreError
from plugproof.storeerrors import BadCells, BadChoice, BadMoment, BadPlate, BadPrices, NoHead, TooGreat

BELOW = (BadShape, Refused, BadScript, BadImage, BadPlate, BadCells, TooGreat, BadChoice, NoHead, BadMoment, BadPrices)


class ErrorsTest(unittest.TestCase):
    def test_which_lies_below_which(self):
        self.assertEqual(StoreError.__bases__, (Exception,))
        for error in BELOW:
            with self.subTest(error=error.__name__):
                self.assertEqual(error.__bases__, (StoreError,))

    def test_each_is_defined_where_the_interface_lists_it(self):
        for error in (StoreError,) + BELOW[:4]:
            self.assertEqual(error.__module__, errors.__name__)
        for error in BELOW[4:]:
            self.assertEqual(error.__module__, storeerrors.__name__)

    def test_one_argument_is_kept(self):
        told = (
            (BadShape, "word", "dirs"), (Refused, "word", "full"), (BadPlate, "plate", 7), (BadCells, "plate", 3),
            (TooGreat, "many", 9), (BadChoice, "plate", (1, 2)), (BadMoment, "many", -1), (BadPrices, "unit", ("dir", 2)),
        )
        for error, name, value in told:
            with self.subTest(error=error.__name__):
                self.assertEqual(vars(error(value)), {name: value})
                self.assertEqual(vars(error(**{name: value})), {name: value})

    def test_two_arguments_are_kept(self):
        for error in (BadScript, BadImage):
            with self.subTest(error=error.__name__):
                self.assertEqual(vars(error(4, 2)), {"line": 4, "word": 2})
                self.assertEqual(vars(error(word=2, line=4)), {"line": 4, "word": 2})

    def test_no_head_has_no_argument(self):
        self.assertEqual(vars(NoHead()), {})
        self.assertRaises(TypeError, NoHead, 1, which=2)

    def test_they_are_caught_by_the_name_above(self):
        for error in BELOW:
            many = 2 if error in (BadScript, BadImage) else 0 if error is NoHead else 1
            with self.assertRaises(StoreError):
                raise error(*range(many))


if __name__ == "__main__":
    unittest.main()
