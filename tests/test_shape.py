"""[40]: shapes, where their plates stand, empty homes, names and whole numbers."""

import itertools
import unittest

from plugproof import shape as shapes
from plugproof.errors import BadShape
from plugproof.shape import NAMES, Shape, is_name, is_whole, name_of, number_of

RANGES = (("dirs", 2, 40), ("rows", 1, 60), ("files", 1, 40), ("blocks", 1, 200), ("users", 1, 4))
GOOD = (5, 9, 3, 6, 2)


def with_number(place, number, numbers=GOOD):
    return numbers[:place] + (number,) + numbers[place + 1:]


class ShapeTest(unittest.TestCase):
    def refused(self, numbers):
        with self.assertRaises(BadShape) as caught:
            Shape(*numbers)
        return caught.exception.word

    def test_constants(self):
        told = (shapes.WIDTH, shapes.NAMES, shapes.MOST_BLOCKS, shapes.MOST_SIZE, shapes.ROOT, shapes.FOUND)
        self.assertEqual(told, (8, 475254, 75, 600, 0, 1))

    def test_edges_of_each_range(self):
        for place, (word, low, high) in enumerate(RANGES):
            for number in (low, high):
                self.assertEqual(getattr(Shape(*with_number(place, number)), word), number)
            for number in (low - 1, high + 1, -high, True, None, str(low), float(low), (low,)):
                with self.subTest(word=word, number=number):
                    self.assertEqual(self.refused(with_number(place, number)), word)

    def test_the_first_wrong_number_is_named(self):
        for first, second in itertools.combinations(range(5), 2):
            numbers = with_number(second, 0, with_number(first, 999))
            self.assertEqual(self.refused(numbers), RANGES[first][0])
        self.assertEqual(self.refused((0, 0, 0, 0, 0)), "dirs")

    def test_attributes_and_told(self):
        shape = Shape(dirs=5, rows=9, files=3, blocks=6, users=2)
        self.assertEqual((shape.dirs, shape.rows, shape.files, shape.blocks, shape.users), GOOD)
        self.assertEqual(shape.told(), GOOD)

    def test_where_each_kind_begins(self):
        told = {
            (2, 1, 1, 1, 1): (2, 3, 4, 5, 6),
            (8, 8, 1, 1, 4): (2, 3, 4, 5, 6),
            (9, 8, 2, 3, 1): (3, 4, 5, 7, 10),
            (8, 9, 2, 3, 1): (2, 4, 5, 7, 10),
            (17, 17, 5, 6, 2): (4, 7, 8, 13, 19),
            (40, 60, 40, 200, 4): (6, 14, 15, 55, 255),
        }
        for numbers, expected in told.items():
            shape = Shape(*numbers)
            begins = (shape.first_row, shape.first_user, shape.first_file, shape.first_block, shape.plates)
            self.assertEqual(begins, expected, numbers)

    def test_cells_are_pairs_of_plate_and_place(self):
        shape = Shape(40, 60, 40, 200, 4)
        self.assertEqual(shape.clock_cell(), (0, 0))
        self.assertEqual([shape.dir_cell(n) for n in (0, 1, 7, 8, 39)], [(1, 0), (1, 1), (1, 7), (2, 0), (5, 7)])
        self.assertEqual([shape.row_cell(n) for n in (0, 7, 8, 59)], [(6, 0), (6, 7), (7, 0), (13, 3)])
        self.assertEqual([shape.user_cell(n) for n in (0, 3)], [(14, 0), (14, 3)])
        self.assertEqual([shape.file_plate(n) for n in (0, 39)], [15, 54])
        self.assertEqual([shape.block_plate(n) for n in (0, 199)], [55, 254])

    def test_no_cell_or_plate_has_two_meanings(self):
        for numbers in (GOOD, (2, 1, 1, 1, 1), (16, 24, 7, 20, 3), (40, 60, 40, 200, 4)):
            shape = Shape(*numbers)
            cells = [shape.clock_cell()] + [shape.dir_cell(n) for n in range(shape.dirs)]
            cells += [shape.row_cell(n) for n in range(shape.rows)] + [shape.user_cell(n) for n in range(shape.users)]
            plates = [shape.file_plate(n) for n in range(shape.files)]
            plates += [shape.block_plate(n) for n in range(shape.blocks)]
            self.assertEqual(len(set(cells)), len(cells))
            self.assertEqual(sorted({plate for plate, place in cells} | set(plates)), list(range(shape.plates)))
            self.assertEqual(plates, list(range(shape.first_file, shape.plates)))

    def test_empty_home(self):
        for numbers in (GOOD, (2, 1, 1, 1, 1), (40, 60, 40, 200, 4)):
            shape = Shape(*numbers)
            home = shape.empty_home()
            self.assertEqual(list(home), list(range(shape.plates)))
            users = {shape.user_cell(user) for user in range(shape.users)}
            for plate, cells in home.items():
                expected = [shape.blocks if (plate, place) in users else 0 for place in range(8)]
                self.assertEqual(cells, tuple(expected))

    def test_empty_home_is_new_each_time(self):
        shape = Shape(*GOOD)
        shape.empty_home()[0] = (1,) * 8
        self.assertEqual(shape.empty_home()[0], (0,) * 8)

    def test_equal_shapes(self):
        self.assertTrue(Shape(*GOOD) == Shape(*GOOD))
        self.assertFalse(Shape(*GOOD) != Shape(*GOOD))
        for place in range(5):
            self.assertFalse(Shape(*GOOD) == Shape(*with_number(place, 4)))
        self.assertFalse(Shape(*GOOD) == GOOD)
        self.assertFalse(Shape(*GOOD) == None)


class NamesTest(unittest.TestCase):
    def test_numbers_of_the_edges(self):
        told = (
            ("a", 0), ("b", 1), ("z", 25), ("aa", 26), ("ab", 27), ("az", 51), ("ba", 52), ("zz", 701),
            ("aaa", 702), ("zzz", 18277), ("aaaa", 18278), ("zzzz", 475253),
        )
        for name, number in told:
            self.assertEqual(number_of(name), number)
            self.assertEqual(name_of(number), name)
        self.assertEqual(NAMES, 475253 + 1)

    def test_in_order_without_gaps(self):
        letters = "abcdefghijklmnopqrstuvwxyz"
        names = ["".join(word) for long in (1, 2, 3) for word in itertools.product(letters, repeat=long)]
        self.assertEqual([number_of(name) for name in names], list(range(len(names))))

    def test_there_and_back(self):
        for number in list(range(0, NAMES, 97)) + list(range(NAMES - 800, NAMES)):
            name = name_of(number)
            self.assertTrue(is_name(name))
            self.assertEqual(number_of(name), number)

    def test_what_is_no_name(self):
        for thing in ("a", "zz", "abc", "zzzz"):
            self.assertTrue(is_name(thing))
        for thing in (
            "", "aaaaa", "found", "A", "aB", "a1", "a ", " a", "a\n", "\u00e4", "a/b", "-", None, 0, True, 3.0,
            b"a", ("a",), ["a"], {"a": 1},
        ):
            self.assertFalse(is_name(thing), thing)


class WholeTest(unittest.TestCase):
    def test_without_edges(self):
        for thing in (0, 1, -1, 10 ** 40, -(10 ** 40)):
            self.assertIs(is_whole(thing), True)
        for thing in (True, False, None, "1", 1.0, (1,), [], b"1"):
            self.assertIs(is_whole(thing), False)

    def test_with_edges(self):
        self.assertEqual([is_whole(n, 2, 4) for n in range(0, 7)], [False, False, True, True, True, False, False])
        self.assertEqual([is_whole(n, low=0) for n in (-1, 0, 99)], [False, True, True])
        self.assertEqual([is_whole(n, high=0) for n in (-99, 0, 1)], [True, True, False])
        self.assertEqual([is_whole(n, None, 3) for n in (3, 4)], [True, False])
        self.assertFalse(is_whole(3, 4, 2))

    def test_true_and_false_stay_out_within_edges(self):
        for thing in (True, False, None, "0"):
            self.assertIs(is_whole(thing, 0, 1), False)
            self.assertIs(is_whole(thing, -1), False)
            self.assertIs(is_whole(thing, None, 5), False)


if __name__ == "__main__":
    unittest.main()
