"""[3] to [5]: disks, falls and traces."""

import itertools
import random
import unittest

from plugproof.disk import TORN, Disk, disk_after
from plugproof.storeerrors import BadChoice, BadMoment, BadPlate

BARRIER = ("barrier",)


def stands(disk):
    return disk.settled, disk.loose


def all_choices(disk):
    """Every choice of a disk, with a number for each of its plates."""
    ranges = []
    for plate in range(disk.many):
        loose = len([value for written, value in disk.loose if written == plate])
        ranges.append(range(-1, loose + 1) if loose else range(1))
    return [dict(enumerate(numbers)) for numbers in itertools.product(*ranges)]


def drawn_disk(draw, values):
    disk = Disk(draw.randint(1, 4))
    for _ in range(draw.randint(0, 3)):
        disk.write(draw.randrange(disk.many), draw.choice(values))
    disk.barrier()
    for _ in range(draw.randint(0, 5)):
        disk.write(draw.randrange(disk.many), draw.choice(values))
    return disk


class DiskTest(unittest.TestCase):
    def test_fresh(self):
        self.assertIs(TORN, None)
        self.assertEqual(stands(Disk(3)), (((), (), ()), ()))
        self.assertEqual(stands(Disk(many=1)), (((),), ()))

    def test_write_and_barrier(self):
        disk = Disk(3)
        disk.write(1, "a")
        disk.write(plate=2, value=7)
        disk.write(1, "b")
        self.assertEqual(stands(disk), (((), (), ()), ((1, "a"), (2, 7), (1, "b"))))
        disk.barrier()
        self.assertEqual(stands(disk), (((), "b", 7), ()))
        disk.barrier()
        self.assertEqual(stands(disk), (((), "b", 7), ()))
        disk.write(2, "c")
        disk.barrier()
        self.assertEqual(disk.settled, ((), "b", "c"))

    def test_now(self):
        disk = Disk(2)
        self.assertEqual(disk.now(0), ())
        disk.write(0, 1)
        self.assertEqual((disk.now(0), disk.now(1)), (1, ()))
        disk.write(0, 2)
        disk.write(1, 3)
        self.assertEqual((disk.now(0), disk.now(1)), (2, 3))
        disk.barrier()
        self.assertEqual((disk.now(0), disk.now(1)), (2, 3))
        disk.write(0, None)
        self.assertIs(disk.now(0), None)

    def test_versions(self):
        disk = Disk(2)
        self.assertEqual(disk.versions(0), ((),))
        disk.write(0, 1)
        disk.write(1, 9)
        disk.write(0, 2)
        self.assertEqual(disk.versions(0), ((), 1, 2, TORN))
        self.assertEqual(disk.versions(1), ((), 9, TORN))
        disk.barrier()
        self.assertEqual(disk.versions(0), (2,))

    def test_any_value_may_be_written(self):
        for value in (None, (), 0, True, "torn", [1, []], {"a": 1}, (1, (2,)), b""):
            disk = Disk(1)
            disk.write(0, value)
            self.assertEqual(disk.versions(0), ((), value, TORN))
            self.assertEqual(disk.now(0), value)
            disk.barrier()
            self.assertEqual(stands(disk), ((value,), ()))

    def test_what_is_no_plate(self):
        disk = Disk(2)
        disk.write(0, 5)
        for plate in (2, -1, True, False, None, "0", 0.0, (0,)):
            for call in (disk.now, disk.versions, lambda plate: disk.write(plate, 1)):
                with self.assertRaises(BadPlate) as caught:
                    call(plate)
                self.assertIs(caught.exception.plate, plate)
        self.assertEqual(stands(disk), (((), ()), ((0, 5),)))


class FallsTest(unittest.TestCase):
    def setUp(self):
        self.disk = Disk(4)
        self.disk.write(0, "old")
        self.disk.write(3, "fast")
        self.disk.barrier()
        for plate, value in ((0, "one"), (1, "x"), (0, "two")):
            self.disk.write(plate, value)

    def fallen(self, choice):
        disk = self.disk.fallen(choice)
        self.assertEqual(disk.loose, ())
        return disk.settled

    def test_each_number(self):
        self.assertEqual(self.fallen({}), ("old", (), (), "fast"))
        self.assertEqual(self.fallen({0: 0, 1: 0, 2: 0, 3: 0}), ("old", (), (), "fast"))
        self.assertEqual(self.fallen({0: 1}), ("one", (), (), "fast"))
        self.assertEqual(self.fallen({1: 1, 0: 2}), ("two", "x", (), "fast"))
        self.assertEqual(self.fallen({0: -1, 1: -1}), (TORN, TORN, (), "fast"))

    def test_the_disk_itself_stays(self):
        before = stands(self.disk)
        fallen = self.disk.fallen({0: 2, 1: -1})
        fallen.write(2, 5)
        fallen.barrier()
        self.assertEqual(stands(self.disk), before)

    def test_nothing_loose(self):
        self.disk.barrier()
        self.assertEqual(self.fallen({}), ("two", "x", (), "fast"))
        self.assertEqual(self.fallen({0: 0, 3: 0}), ("two", "x", (), "fast"))
        self.assert_bad({0: -1}, 0)
        self.assert_bad({0: 1}, 0)

    def assert_bad(self, choice, plate):
        with self.assertRaises(BadChoice) as caught:
            self.disk.fallen(choice)
        self.assertEqual(caught.exception.plate, plate)
        self.assertIs(type(caught.exception.plate), type(plate))

    def test_numbers_that_cannot_be_chosen(self):
        for number in (3, -2, True, False, None, "1", 1.0, (1,)):
            self.assert_bad({1: 1, 0: number}, 0)
        for number in (-1, 1):
            self.assert_bad({2: number}, 2)
            self.assert_bad({3: number}, 3)

    def test_keys_that_are_no_plates(self):
        for key in (4, -1, True, "0", None, (0,)):
            self.assert_bad({0: 1, key: 0}, key)

    def test_the_first_wrong_key_in_the_dicts_order(self):
        self.assert_bad({0: 1, 9: 0, 1: 2}, 9)
        self.assert_bad({1: 2, 9: 0}, 1)
        self.assert_bad({3: -1, 1: 7, -1: 0}, 3)

    def test_count_falls(self):
        # Plate 0: old, one, two, torn; plate 1: (), x, torn.
        self.assertEqual(self.disk.count_falls(), 12)
        self.assertEqual(Disk(3).count_falls(), 1)
        self.disk.barrier()
        self.assertEqual(self.disk.count_falls(), 1)

    def test_count_falls_of_like_versions(self):
        disk = Disk(1)
        for value, expected in (((), 2), (None, 2), (5, 3), (5, 3), (None, 3), (6, 4)):
            disk.write(0, value)
            self.assertEqual(disk.count_falls(), expected)

    def test_count_falls_where_values_are_no_keys(self):
        disk = Disk(1)
        disk.write(0, [1])
        disk.write(0, [1])
        disk.write(0, {})
        self.assertEqual(disk.count_falls(), 4)

    def test_count_falls_against_all_choices(self):
        draw = random.Random(4)
        for _ in range(400):
            disk = drawn_disk(draw, (None, (), 1, 2, (3,)))
            rows = {disk.fallen(choice).settled for choice in all_choices(disk)}
            self.assertEqual(disk.count_falls(), len(rows))

    def test_all_choices_choose_among_the_versions(self):
        draw = random.Random(5)
        for _ in range(100):
            disk = drawn_disk(draw, (1, 2, 3))
            for choice in all_choices(disk):
                row = tuple(disk.versions(plate)[choice[plate]] for plate in range(disk.many))
                self.assertEqual(stands(disk.fallen(choice)), (row, ()))


class TracesTest(unittest.TestCase):
    def setUp(self):
        self.disk = Disk(2)
        self.disk.write(0, "settled")
        self.disk.barrier()
        self.disk.write(1, "loose")
        self.trace = (("write", 0, 1), BARRIER, ("write", 1, 2), ("write", 1, 3), BARRIER)

    def test_each_moment(self):
        expected = (
            (("settled", ()), ((1, "loose"),)),
            (("settled", ()), ((1, "loose"), (0, 1))),
            ((1, "loose"), ()),
            ((1, "loose"), ((1, 2),)),
            ((1, "loose"), ((1, 2), (1, 3))),
            ((1, 3), ()),
        )
        for moment, told in enumerate(expected):
            late = disk_after(self.disk, self.trace, moment)
            self.assertEqual(stands(late), told)
            self.assertIsNot(late, self.disk)
            late.write(0, "more")
            late.barrier()
            self.assertEqual(stands(self.disk), (("settled", ()), ((1, "loose"),)))

    def test_no_events(self):
        self.assertEqual(stands(disk_after(self.disk, (), 0)), stands(self.disk))

    def test_a_value_that_is_the_word_of_an_event(self):
        trace = (("write", 0, "barrier"), ("write", 1, BARRIER), ("write", 1, "write"))
        late = disk_after(self.disk, trace, 3)
        self.assertEqual(stands(late), (("settled", ()), ((1, "loose"), (0, "barrier"), (1, BARRIER), (1, "write"))))

    def test_moments_that_are_none(self):
        for moment in (-1, 6, True, False, None, "0", 1.0):
            with self.assertRaises(BadMoment) as caught:
                disk_after(self.disk, self.trace, moment)
            self.assertIs(caught.exception.many, moment)
        with self.assertRaises(BadMoment):
            disk_after(self.disk, (), 1)


if __name__ == "__main__":
    unittest.main()
