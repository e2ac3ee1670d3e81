"""[6], [8], [9]: the ring, log plates, groups and the row of groups that is read."""

import unittest

from plugproof.disk import Disk
from plugproof.log import is_log_plate, last_seen, log_rows, read_groups, slot_plate, whole_group

A = (1,) * 8
B = (2,) * 8
C = (-3,) * 8


def row(group, at, many, home, cells=A):
    return (group, at, many, home) + cells


def ring(*values):
    """A disk with these values in its ring, from slot 0 on, and no home plates."""
    disk = Disk(2 + len(values))
    for slot, value in enumerate(values):
        disk.write(2 + slot, value)
    disk.barrier()
    return disk


class RowsTest(unittest.TestCase):
    def test_slots_are_counted_on_and_on(self):
        self.assertEqual([slot_plate(3, slot) for slot in range(8)], [2, 3, 4, 2, 3, 4, 2, 3])
        self.assertEqual([slot_plate(1, slot) for slot in range(3)], [2, 2, 2])
        self.assertEqual(slot_plate(7, 7 * 10 ** 20 + 5), 7)

    def test_log_rows(self):
        self.assertEqual(log_rows(5, ((0, A), (3, B), (4, C))), [row(5, 0, 3, 0), row(5, 1, 3, 3, B), row(5, 2, 3, 4, C)])
        self.assertEqual(log_rows(0, ((2, B),)), [(0, 0, 1, 2, 2, 2, 2, 2, 2, 2, 2, 2)])
        self.assertEqual(log_rows(0, ()), [])
        self.assertTrue(all(is_log_plate(value) for value in log_rows(9, ((0, A), (1, C)))))

    def test_log_plates(self):
        for value in (
            row(0, 0, 1, 0), row(7, 2, 3, 9, C), row(10 ** 30, 0, 99, 10 ** 30), row(0, 98, 99, 0),
            row(1, 0, 1, 1, (-1, -2, 0, 0, 0, 0, 0, -(10 ** 30))),
        ):
            self.assertIs(is_log_plate(value), True, value)

    def test_what_is_no_log_plate(self):
        for value in (
            row(0, 0, 1, 0)[:11], row(0, 0, 1, 0) + (0,), row(0, 1, 1, 0), row(0, 2, 1, 0), row(0, 0, 0, 0),
            row(0, -1, 1, 0), row(0, 0, -1, 0), row(-1, 0, 1, 0), row(0, 0, 1, -1), row(True, 0, 1, 0),
            row(0, False, 1, 0), row(0, 0, True, 0), row(0, 0, 1, False), row(0, 0, 1, 0, A[:7] + (True,)),
            row(0, 0, 1, 0, A[:7] + (None,)), row("0", 0, 1, 0), row(0, None, 1, 0), row(0, 0, "1", 0), row(0, 0, 1, 0.0),
            list(row(0, 0, 1, 0)), (row(0, 0, 1, 0),), A, (), None, 12, True, "000000000000", {k: 1 for k in range(12)},
        ):
            self.assertIs(is_log_plate(value), False, value)


class GroupsTest(unittest.TestCase):
    def test_a_whole_group(self):
        disk = ring(row(4, 0, 2, 1, B), row(4, 1, 2, 5, C), ())
        self.assertEqual(whole_group(disk, 3, 0, 4), ((1, B), (5, C)))
        self.assertEqual(whole_group(disk, 3, 3, 4), ((1, B), (5, C)))
        self.assertEqual(whole_group(disk, 3, 3 * 10 ** 20, 4), ((1, B), (5, C)))

    def test_round_the_end_of_the_ring(self):
        disk = ring(row(4, 1, 3, 5, C), row(4, 2, 3, 6, A), row(4, 0, 3, 1, B))
        for slot in (2, 5, 302):
            self.assertEqual(whole_group(disk, 3, slot, 4), ((1, B), (5, C), (6, A)))
        self.assertIsNone(whole_group(disk, 3, 0, 4))

    def test_home_plates_stand_in_the_order_of_at(self):
        disk = ring(row(0, 0, 3, 5, B), row(0, 1, 3, 2, C), row(0, 2, 3, 5, A))
        self.assertEqual(whole_group(disk, 3, 0, 0), ((5, B), (2, C), (5, A)))

    def test_a_group_that_is_not_whole(self):
        good = (row(4, 0, 2, 1, B), row(4, 1, 2, 5, C))
        self.assertIsNone(whole_group(ring(*good), 2, 0, 3))
        self.assertIsNone(whole_group(ring(*good), 2, 0, 5))
        self.assertIsNone(whole_group(ring(*good), 2, 1, 4))
        for wrong in (
            None, (), row(3, 1, 2, 5), row(5, 1, 2, 5), row(4, 0, 2, 5), row(4, 1, 3, 5), row(4, 2, 3, 5), list(good[1]),
            row(4, 1, 2, -5), row(4, 1, 2, 5, A[:7] + (True,)),
        ):
            self.assertIsNone(whole_group(ring(good[0], wrong), 2, 0, 4), wrong)
        for wrong in (None, (), row(4, 1, 2, 1), row(4, 0, 3, 1), row(5, 0, 2, 1), row(4, 0, 1, 1, A[:7])):
            self.assertIsNone(whole_group(ring(wrong, good[1]), 2, 0, 4), wrong)

    def test_more_plates_than_slots(self):
        self.assertIsNone(whole_group(ring(row(0, 0, 10 ** 30, 0)), 1, 0, 0))
        self.assertIsNone(whole_group(ring(row(0, 0, 3, 0), row(0, 1, 3, 1)), 2, 0, 0))
        self.assertEqual(whole_group(ring(row(0, 0, 1, 0)), 1, 0, 0), ((0, A),))


class ReadGroupsTest(unittest.TestCase):
    def test_one_behind_the_other(self):
        disk = ring(row(7, 1, 2, 3, C), row(8, 0, 1, 0), row(5, 0, 1, 0), row(6, 0, 1, 2, B), row(7, 0, 2, 1))
        expected = ((6, 3, ((2, B),)), (7, 4, ((1, A), (3, C))), (8, 6, ((0, A),)))
        self.assertEqual(read_groups(disk, 5, (0, 6, 3)), expected)
        later = tuple((group, slot + 10, changes) for group, slot, changes in expected)
        self.assertEqual(read_groups(disk, 5, (9, 6, 13)), later)
        self.assertEqual(read_groups(disk, 5, (0, 7, 4)), expected[1:])
        self.assertEqual(read_groups(disk, 5, (0, 6, 2)), ())
        self.assertEqual(read_groups(disk, 5, (0, 5, 2)), ((5, 2, ((0, A),)),) + expected)

    def test_just_full_and_round_again(self):
        disk = ring(row(2, 0, 1, 0), row(3, 0, 1, 0, B), row(4, 0, 1, 0, C))
        self.assertEqual([group for group, _, _ in read_groups(disk, 3, (0, 2, 0))], [2, 3, 4])
        # Group 5 would be behind the ring's last slot, where group 2 stands.
        self.assertEqual(read_groups(disk, 3, (0, 3, 1)), ((3, 1, ((0, B),)), (4, 2, ((0, C),))))
        whole = ring(row(2, 0, 3, 0), row(2, 1, 3, 0, B), row(2, 2, 3, 0, C))
        self.assertEqual(read_groups(whole, 3, (0, 2, 0)), ((2, 0, ((0, A), (0, B), (0, C))),))

    def test_what_would_go_beyond_the_ring_together(self):
        disk = ring(row(2, 0, 2, 0), row(2, 1, 2, 1), row(3, 0, 2, 0), row(3, 1, 2, 1)[:11])
        self.assertEqual(read_groups(disk, 4, (0, 2, 0)), ((2, 0, ((0, A), (1, A))),))
        late = ring(row(3, 1, 2, 1), row(2, 0, 2, 0), row(3, 0, 2, 0))
        self.assertEqual(read_groups(late, 3, (0, 2, 1)), ())
        self.assertEqual(read_groups(late, 3, (0, 3, 2)), ((3, 2, ((0, A), (1, A))),))

    def test_a_number_that_is_skipped(self):
        disk = ring(row(2, 0, 1, 0), row(4, 0, 1, 0), row(5, 0, 1, 0))
        self.assertEqual([group for group, _, _ in read_groups(disk, 3, (0, 2, 0))], [2])

    def test_a_torn_group_ends_the_row(self):
        disk = ring(row(2, 0, 1, 0), None, row(4, 0, 1, 0))
        self.assertEqual([group for group, _, _ in read_groups(disk, 3, (0, 2, 0))], [2])

    def test_home_plates_of_any_number(self):
        disk = ring(row(2, 0, 1, 10 ** 9))
        self.assertEqual(read_groups(disk, 1, (0, 2, 0)), ((2, 0, ((10 ** 9, A),)),))

    def test_last_seen(self):
        self.assertEqual(last_seen(ring((), None, A), 3), -1)
        self.assertEqual(last_seen(ring((), row(0, 0, 1, 0)), 2), 0)
        self.assertEqual(last_seen(ring(row(8, 1, 5, 7), row(3, 0, 1, 0), row(5, 0, 1, 0)), 3), 8)
        self.assertEqual(last_seen(ring(row(8, 1, 1, 7), row(3, 0, 1, 0), list(row(9, 0, 1, 0))), 3), 3)

    def test_last_seen_reads_the_ring_alone(self):
        disk = ring((), (), row(9, 0, 1, 0))
        disk.write(0, row(11, 0, 1, 0))
        disk.barrier()
        self.assertEqual(last_seen(disk, 2), -1)


if __name__ == "__main__":
    unittest.main()
