"""[2]: cells, and checked changes."""

import unittest

from plugproof.plates import checked_changes, is_cells
from plugproof.storeerrors import BadCells, BadPlate

ONES = (1,) * 8
TWOS = (2,) * 8


class CellsTest(unittest.TestCase):
    def test_cells(self):
        for value in ((0,) * 8, (-1, 2, -3, 4, 5, 6, 7, 10 ** 30), tuple(range(8))):
            self.assertIs(is_cells(value), True)

    def test_what_is_no_cells(self):
        for value in (
            (0,) * 7, (0,) * 9, (), [0] * 8, (0,) * 7 + (True,), (False,) + (0,) * 7, (0,) * 7 + (None,),
            (0,) * 7 + (1.0,), (0,) * 7 + ("1",), ((0,) * 8,) * 8, None, 8, True, "00000000", b"00000000",
            {k: k for k in range(8)}, set(range(8)), range(8),
        ):
            self.assertIs(is_cells(value), False, value)


class ChangesTest(unittest.TestCase):
    def bad_plate(self, plates, changes):
        with self.assertRaises(BadPlate) as caught:
            checked_changes(plates, changes)
        return caught.exception.plate

    def bad_cells(self, plates, changes):
        with self.assertRaises(BadCells) as caught:
            checked_changes(plates, changes)
        return caught.exception.plate

    def test_ascending_pairs(self):
        self.assertEqual(checked_changes(3, {2: ONES, 0: TWOS}), ((0, TWOS), (2, ONES)))
        self.assertEqual(checked_changes(3, {0: TWOS, 2: ONES, 1: ONES}), ((0, TWOS), (1, ONES), (2, ONES)))
        self.assertEqual(checked_changes(3, {}), ())

    def test_the_dict_stays(self):
        changes = {1: ONES, 0: TWOS}
        checked_changes(2, changes)
        self.assertEqual(list(changes.items()), [(1, ONES), (0, TWOS)])

    def test_keys_that_are_no_plates(self):
        for key in (3, 4, -1, True, False, "0", None, (0,), 0.5):
            with self.subTest(key=key):
                wrong = self.bad_plate(3, {2: ONES, key: ONES})
                self.assertEqual(wrong, key)
                self.assertIs(type(wrong), type(key))

    def test_the_first_wrong_key_in_the_dicts_order(self):
        self.assertEqual(self.bad_plate(3, {1: ONES, 9: ONES, -1: ONES, "a": ONES}), 9)
        self.assertEqual(self.bad_plate(3, {"a": ONES, 9: ONES, 1: ONES}), "a")
        self.assertEqual(self.bad_plate(3, {(1, 2): ONES, True: ONES}), (1, 2))

    def test_wrong_keys_come_ahead_of_wrong_cells(self):
        self.assertEqual(self.bad_plate(3, {0: None, 1: 5, 3: ONES}), 3)
        self.assertEqual(self.bad_plate(3, {0: None, -1: None}), -1)

    def test_the_least_plate_without_cells(self):
        for order in ((0, 1, 2), (2, 1, 0), (1, 2, 0)):
            values = {0: ONES, 1: (1,) * 7, 2: None}
            self.assertEqual(self.bad_cells(3, {plate: values[plate] for plate in order}), 1)
        self.assertEqual(self.bad_cells(3, {2: [0] * 8, 0: (True,) * 8}), 0)
        self.assertEqual(self.bad_cells(1, {0: ()}), 0)


if __name__ == "__main__":
    unittest.main()
