"""[7]: heads."""

import unittest

from plugproof.disk import Disk
from plugproof.heads import head_plate, is_head, read_head
from plugproof.storeerrors import NoHead


def disk_with(first, second):
    disk = Disk(3)
    disk.write(0, first)
    disk.write(1, second)
    disk.write(2, (9, 9, 9))
    disk.barrier()
    return disk


class HeadsTest(unittest.TestCase):
    def test_plates_by_turns(self):
        self.assertEqual([head_plate(number) for number in range(5)], [0, 1, 0, 1, 0])

    def test_heads_at_their_plate(self):
        for value in ((0, 0, 0), (2, 5, 1), (10 ** 30, 0, 7)):
            self.assertIs(is_head(0, value), True)
            self.assertIs(is_head(1, value), False)
        for value in ((1, 0, 0), (7, 10 ** 30, 3)):
            self.assertIs(is_head(1, value), True)
            self.assertIs(is_head(0, value), False)

    def test_plates_that_are_no_heads(self):
        for plate in (2, 3, -1, 10):
            for value in ((0, 0, 0), (1, 0, 0), (2, 0, 0), (3, 0, 0)):
                self.assertIs(is_head(plate, value), False)

    def test_values_that_are_no_heads(self):
        for value in (
            None, (), 0, 2, "000", (0, 0), (0, 0, 0, 0), [0, 0, 0], {0: 0}, ((0, 0, 0),), (0, True, 0), (False, 0, 0),
            (0, 0, False), (-2, 0, 0), (0, -1, 0), (0, 0, -1), (0.0, 0, 0), ("0", 0, 0), (None, 0, 0), (0, None, 0),
        ):
            for plate in (0, 1):
                self.assertIs(is_head(plate, value), False, value)
        self.assertIs(is_head(1, (True, 0, 0)), False)

    def test_the_greatest_number_is_read(self):
        self.assertEqual(read_head(disk_with((4, 1, 1), (3, 9, 9))), (4, 1, 1))
        self.assertEqual(read_head(disk_with((4, 1, 1), (5, 0, 0))), (5, 0, 0))
        self.assertEqual(read_head(disk_with((10, 0, 0), (9, 5, 5))), (10, 0, 0))

    def test_one_head(self):
        for other in (None, (), (4, 0, 0), (9, 0), [9, 0, 0], (9, -1, 0)):
            self.assertEqual(read_head(disk_with((2, 3, 4), other)), (2, 3, 4))
        for other in (None, (), (9, 0, 0), (8, 0), [8, 0, 0]):
            self.assertEqual(read_head(disk_with(other, (1, 3, 4))), (1, 3, 4))

    def test_no_head(self):
        for first, second in ((None, None), ((), ()), (None, ()), ((1, 0, 0), (0, 0, 0)), ((0, 0), (True, 0, 0))):
            with self.assertRaises(NoHead):
                read_head(disk_with(first, second))
        with self.assertRaises(NoHead):
            read_head(Disk(5))

    def test_what_is_loose_is_read_as_it_stands_now(self):
        disk = disk_with((2, 0, 0), (1, 0, 0))
        disk.write(1, (3, 1, 1))
        self.assertEqual(read_head(disk), (3, 1, 1))
        self.assertEqual(read_head(disk.fallen({1: 0})), (2, 0, 0))
        self.assertEqual(read_head(disk.fallen({1: -1})), (2, 0, 0))
        self.assertEqual(read_head(disk.fallen({1: 1})), (3, 1, 1))


if __name__ == "__main__":
    unittest.main()
