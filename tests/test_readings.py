"""[41] to [43]: what the plates of a home say, whatever cells stand there."""

import random
import unittest

from homes import dir_value, drawn_files, drawn_home, home_with, put_cell, row_value

from plugproof import readings
from plugproof.readings import (
    block_of, clock_at, content_of, counts_of, data_block, dir_at, dirs_of, is_dir, limit_at, met, met_below, named_files,
    numbers_at, owner_at, pointers_at, row_at, rows_of, size_at, spot_of, time_at, tree_of, usage_of,
)
from plugproof.shape import NAMES, Shape

SHAPE = Shape(10, 11, 3, 12, 2)


def plate(*numbers):
    return numbers + (0,) * (8 - len(numbers))


class DirsAndRowsTest(unittest.TestCase):
    def setUp(self):
        self.home = SHAPE.empty_home()

    def test_dir_at(self):
        for number in (2, 7, 8, 9):
            for value, told in (
                (0, None), (-1, None), (-NAMES, None), (1, (0, 0)), (2, (0, 1)), (NAMES, (0, NAMES - 1)),
                (NAMES + 1, (1, 0)), (1 + 9 * NAMES + 26, (9, 26)), (1 + 10 ** 30 * NAMES, (10 ** 30, 0)),
            ):
                put_cell(self.home, SHAPE.dir_cell(number), value)
                self.assertEqual(dir_at(self.home, SHAPE, number), told)

    def test_the_root_and_found_are_never_read(self):
        self.home[1] = (dir_value(2, "a"), dir_value(0, "b")) + (0,) * 6
        for number in (0, 1):
            self.assertIsNone(dir_at(self.home, SHAPE, number))
            self.assertTrue(is_dir(self.home, SHAPE, number))
        self.assertEqual(dirs_of(self.home, SHAPE), [])

    def test_numbers_beyond(self):
        for number in range(len(self.home)):
            self.home[number] = (1,) * 8
        for number in (-1, -8, -100, 10, 11, 15, 16, 999):
            self.assertIsNone(dir_at(self.home, SHAPE, number))
            self.assertIs(is_dir(self.home, SHAPE, number), False)
        for number in (-1, -3, 11, 12, 15, 16, 999):
            self.assertIsNone(row_at(self.home, SHAPE, number))
        self.assertEqual([number for number, _ in dirs_of(self.home, SHAPE)], list(range(2, 10)))
        self.assertEqual([number for number, _ in rows_of(self.home, SHAPE)], list(range(11)))

    def test_is_dir(self):
        home = home_with(SHAPE, {3: (0, "a"), 9: (77, "b")})
        self.assertEqual([number for number in range(-5, 20) if is_dir(home, SHAPE, number)], [0, 1, 3, 9])
        self.assertIs(is_dir(home, SHAPE, 3), True)
        self.assertIs(is_dir(home, SHAPE, 4), False)

    def test_row_at(self):
        for number in (0, 7, 8, 10):
            for value, told in (
                (0, None), (-5, None), (1, (0, 0, 0)), (3, (0, 0, 2)), (4, (0, 1, 0)), (3 * NAMES, (0, NAMES - 1, 2)),
                (3 * NAMES + 1, (1, 0, 0)), (1 + 3 * (50 * NAMES + 4) + 1, (50, 4, 1)),
            ):
                put_cell(self.home, SHAPE.row_cell(number), value)
                self.assertEqual(row_at(self.home, SHAPE, number), told)

    def test_lists(self):
        home = home_with(SHAPE, {9: (0, "b"), 2: (9, "a")}, {10: (9, "c", 2), 0: (44, "a", 0), 3: (0, "z", 2)})
        self.assertEqual(dirs_of(home, SHAPE), [(2, (9, 0)), (9, (0, 1))])
        self.assertEqual(rows_of(home, SHAPE), [(0, (44, 0, 0)), (3, (0, 25, 2)), (10, (9, 2, 2))])
        self.assertEqual(named_files(home, SHAPE), [0, 2])
        self.assertEqual(named_files(self.home, SHAPE), [])

    def test_values_there_and_back(self):
        home = SHAPE.empty_home()
        put_cell(home, SHAPE.dir_cell(5), readings.dir_value(7, 30))
        put_cell(home, SHAPE.row_cell(9), readings.row_value(SHAPE, 8, 31, 2))
        self.assertEqual((dir_at(home, SHAPE, 5), row_at(home, SHAPE, 9)), ((7, 30), (8, 31, 2)))


class FilesTest(unittest.TestCase):
    def test_cells_of_a_file(self):
        for size, told in ((-1, 0), (0, 0), (1, 1), (599, 599), (600, 600), (601, 600), (10 ** 20, 600), (-10 ** 9, 0)):
            self.assertEqual(size_at(home_with(SHAPE, files={2: plate(size)}), SHAPE, 2), told)
        for owner, told in ((-1, 0), (0, 0), (1, 1), (2, 0), (99, 0)):
            self.assertEqual(owner_at(home_with(SHAPE, files={2: plate(5, owner)}), SHAPE, 2), told)
        for time in (-7, 0, 10 ** 12):
            self.assertEqual(time_at(home_with(SHAPE, files={0: plate(1, 2, time)}), SHAPE, 0), time)

    def test_clock_and_limits(self):
        home = SHAPE.empty_home()
        self.assertEqual([clock_at(home, SHAPE), limit_at(home, SHAPE, 0), limit_at(home, SHAPE, 1)], [0, 12, 12])
        home[0] = (-4, 1, 1, 1, 1, 1, 1, 1)
        put_cell(home, SHAPE.user_cell(1), 700)
        self.assertEqual([clock_at(home, SHAPE), limit_at(home, SHAPE, 0), limit_at(home, SHAPE, 1)], [-4, 12, 700])

    def test_block_of(self):
        told = [(pointer, block_of(SHAPE, pointer)) for pointer in (-1, 0, 1, 2, 12, 13, 99)]
        self.assertEqual(told, [(-1, None), (0, None), (1, 0), (2, 1), (12, 11), (13, None), (99, None)])

    def test_spot_of(self):
        told = {
            0: (3,), 1: (4,), 2: (5,), 3: (6, 0), 4: (6, 1), 10: (6, 7), 11: (7, 0, 0), 12: (7, 0, 1), 18: (7, 0, 7),
            19: (7, 1, 0), 73: (7, 7, 6), 74: (7, 7, 7),
        }
        for part, spot in told.items():
            self.assertEqual(spot_of(part), spot)
        self.assertEqual(len({spot_of(part) for part in range(75)}), 75)

    def test_data_block(self):
        home = home_with(
            SHAPE, files={1: (1, 1, 1, 1, 0, 13, 4, 5)},
            blocks={3: (2, 0, 3, -1, 13, 12, 4, 0), 4: (6, 0, 5, 99, 0, 0, 0, 7), 5: (8, 0, 9, 0, 0, 0, 0, 10),
                    6: (0, 0, 0, 0, 0, 0, 0, 11)},
        )
        told = {0: 0, 3: 1, 5: 2, 8: 11, 9: 3, 11: 7, 13: 8, 18: 9, 74: 10}
        # Place 2 of block 4 leads to block 4 itself.
        told.update({27: 5, 29: 4, 34: 6})
        for part in range(-3, 80):
            self.assertEqual(data_block(home, SHAPE, 1, part), told.get(part), part)

    def test_pointers_that_lead_to_their_own_block(self):
        home = home_with(SHAPE, files={0: (600, 0, 0, 0, 0, 0, 2, 2)}, blocks={1: (2,) * 8})
        self.assertEqual([data_block(home, SHAPE, 0, part) for part in (2, 3, 10, 11, 74)], [None, 1, 1, 1, 1])
        self.assertEqual(content_of(home, SHAPE, 0), (0,) * 24 + (2,) * 576)

    def test_numbers_with_holes(self):
        home = home_with(
            SHAPE, files={0: (30, 0, 0, 1, 0, 2, 3, 0)},
            blocks={0: tuple(range(10, 18)), 1: tuple(range(20, 28)), 2: (4, 0, 0, 0, 0, 0, 0, 0),
                    3: tuple(range(-8, 0))},
        )
        whole = tuple(range(10, 18)) + (0,) * 8 + tuple(range(20, 28)) + tuple(range(-8, 0)) + (0,) * 568
        self.assertEqual(content_of(home, SHAPE, 0), whole[:30])
        for start, end in ((0, 600), (0, 0), (7, 8), (7, 9), (0, 8), (8, 16), (23, 25), (31, 32), (30, 600), (600, 600)):
            self.assertEqual(numbers_at(home, SHAPE, 0, start, end), whole[start:end])
        for start in range(0, 40, 3):
            for end in range(0, 40):
                self.assertEqual(numbers_at(home, SHAPE, 0, start, end), whole[start:end])
        self.assertEqual(numbers_at(home, SHAPE, 0, 590, 640), (0,) * 50)
        self.assertEqual(numbers_at(home, SHAPE, 0, -4, 9), (0,) * 4 + whole[:9])

    def test_numbers_of_drawn_files(self):
        draw = random.Random(42)
        for _ in range(60):
            home = drawn_files(draw, SHAPE, 6)
            for file in range(SHAPE.files):
                whole = []
                for part in range(75):
                    block = data_block(home, SHAPE, file, part)
                    whole.extend((0,) * 8 if block is None else home[SHAPE.block_plate(block)])
                start, end = sorted((draw.randint(0, 600), draw.randint(0, 600)))
                self.assertEqual(numbers_at(home, SHAPE, file, start, end), tuple(whole[start:end]))
                self.assertEqual(content_of(home, SHAPE, file), tuple(whole[:size_at(home, SHAPE, file)]))


class WaysTest(unittest.TestCase):
    def setUp(self):
        self.home = home_with(
            SHAPE, files={0: (9, 1, 0, 1, 1, -3, 2, 3), 1: (9, 5, 0, 2, 0, 0, 0, 0), 2: plate(9, 1)},
            blocks={1: (1, 0, 4, 4, 99, 0, 0, 2), 2: (2, 0, 3, 0, 0, 0, 0, 5), 4: (6, 7, -1, 0, 0, 0, 0, 0)},
        )

    def test_pointers_at(self):
        self.assertEqual(list(pointers_at(self.home, SHAPE, 0)), [(1, 0), (1, 0), (-3, 0), (2, 1), (3, 2)])
        self.assertEqual(list(pointers_at(self.home, SHAPE, 2)), [(0, 0), (0, 0), (0, 0), (0, 1), (0, 2)])

    def test_met_below(self):
        home = self.home
        for pointer in (0, -1, 13):
            self.assertEqual([met_below(home, SHAPE, pointer, level) for level in (0, 1, 2)], [[], [], []])
        self.assertEqual(met_below(home, SHAPE, 2, 0), [1])
        self.assertEqual(met_below(home, SHAPE, 2, 1), [1, 0, 3, 3, 1])
        # Block 2 leads to itself, once as a block of pointers and once as one of numbers.
        ways = [2] + [1, 0, 3, 3, 1] + [2, 1, 2, 4] + [4, 5, 6]
        self.assertEqual(met_below(home, SHAPE, 3, 2), ways)

    def test_met_and_counts(self):
        ways = [0, 0] + [1, 0, 3, 3, 1] + [2] + [1, 0, 3, 3, 1] + [2, 1, 2, 4] + [4, 5, 6]
        self.assertEqual(met(self.home, SHAPE, 0), ways)
        self.assertEqual((met(self.home, SHAPE, 1), met(self.home, SHAPE, 2)), ([1], []))
        self.assertEqual(counts_of(self.home, SHAPE, []), [0] * 12)
        self.assertEqual(counts_of(self.home, SHAPE, [1]), [0, 1] + [0] * 10)
        self.assertEqual(counts_of(self.home, SHAPE, [0, 1, 2]), [4, 6, 3, 4, 2, 1, 1] + [0] * 5)
        self.assertEqual(counts_of(self.home, SHAPE, (2, 0)), [4, 5, 3, 4, 2, 1, 1] + [0] * 5)

    def test_usage(self):
        # File 1 has no user as its owner: it is read as user 0's.
        self.assertEqual([usage_of(self.home, SHAPE, [0, 1, 2], user) for user in (0, 1)], [1, 20])
        self.assertEqual([usage_of(self.home, SHAPE, [1, 2], user) for user in (0, 1)], [1, 0])
        self.assertEqual(usage_of(self.home, SHAPE, [], 1), 0)

    def test_drawn_ways(self):
        draw = random.Random(43)

        def ways(home, pointer, level):
            if not 1 <= pointer <= SHAPE.blocks:
                return []
            below = home[SHAPE.block_plate(pointer - 1)] if level else ()
            return [pointer - 1] + [block for number in below for block in ways(home, number, level - 1)]

        for _ in range(40):
            home = drawn_files(draw, SHAPE, 8)
            counts = [0] * 12
            for file in range(3):
                told = [way for place, level in enumerate((0, 0, 0, 1, 2))
                        for way in ways(home, home[SHAPE.file_plate(file)][3 + place], level)]
                self.assertEqual(met(home, SHAPE, file), told)
                self.assertLessEqual(len(told), 85)
                counts = [count + told.count(block) for block, count in enumerate(counts)]
            self.assertEqual(counts_of(home, SHAPE, [0, 1, 2]), counts)


class TreeTest(unittest.TestCase):
    def test_empty(self):
        self.assertEqual(tree_of(SHAPE.empty_home(), SHAPE), ((), ()))

    def test_several_names_of_one_file(self):
        home = home_with(
            SHAPE, {2: (0, "b"), 3: (2, "z")},
            {0: (0, "c", 2), 1: (2, "aa", 0), 2: (3, "a", 2), 3: (1, "x", 0), 4: (1, "w", 1)},
            {0: (2, 1, 30, 5, 0, 0, 0, 0), 1: (0, 0, 40, 0, 0, 0, 0, 0), 2: (9, 7, 50, 0, 5, 0, 0, 0)},
            {4: (7, 8, 9, 0, 0, 0, 0, 0)},
        )
        ten = ("file", 0, 0, 50, (0,) * 8 + (7,))
        low = ("file", 1, 1, 30, (7, 8))
        in_b = (("z", "dir", (("a",) + ten,)), ("aa",) + low)
        expected = ((("b", "dir", in_b), ("c",) + ten), (("w", "file", 2, 0, 40, ()), ("x",) + low))
        self.assertEqual(tree_of(home, SHAPE), expected)

    def test_equal_names_beneath_found(self):
        home = home_with(
            SHAPE, {5: (1, "a"), 4: (1, "a"), 3: (4, "k"), 6: (1, "b")}, {1: (1, "a", 1), 0: (1, "a", 0), 2: (5, "q", 1)},
        )
        told = tree_of(home, SHAPE)
        self.assertEqual(told[0], ())
        expected = (
            ("a", "dir", (("k", "dir", ()),)), ("a", "dir", (("q", "file", 0, 0, 0, ()),)),
            ("a", "file", 1, 0, 0, ()), ("a", "file", 0, 0, 0, ()), ("b", "dir", ()),
        )
        self.assertEqual(told[1], expected)

    def test_names_are_ordered_by_their_numbers(self):
        home = home_with(SHAPE, {2: (0, "aa"), 3: (0, "z"), 4: (0, "aaa"), 5: (0, "b")}, {0: (0, "y", 0), 1: (0, "c", 0)})
        self.assertEqual([name for name, *_ in tree_of(home, SHAPE)[0]], ["b", "c", "y", "z", "aa", "aaa"])

    def test_what_leads_nowhere_is_not_come_to(self):
        home = home_with(
            SHAPE, {2: (3, "a"), 3: (2, "b"), 4: (9, "c"), 5: (70, "d"), 6: (6, "e")},
            {0: (2, "a", 0), 1: (4, "b", 1), 2: (88, "c", 2), 3: (0, "d", 2)},
        )
        self.assertEqual(tree_of(home, SHAPE), ((("d", "file", 0, 0, 0, ()),), ()))

    def test_the_longest_way_down(self):
        shape = Shape(40, 60, 1, 1, 1)
        home = home_with(shape, {number: (0 if number == 2 else number - 1, "a") for number in range(2, 40)})
        told, many = tree_of(home, shape)[0], 0
        while told:
            told, many = told[0][2], many + 1
        self.assertEqual(many, 38)

    def test_any_home_has_a_tree(self):
        draw = random.Random(44)
        shape = Shape(6, 6, 2, 3, 1)
        for _ in range(300):
            home = drawn_home(draw, shape)
            self.assertEqual(len(tree_of(home, shape)), 2)
            which = []

            def walk(told):
                for entry in told:
                    if entry[1] == "dir":
                        walk(entry[2])
                    else:
                        which.append(entry[2])

            for half in tree_of(home, shape):
                walk(half)
            self.assertEqual(sorted(set(which)), list(range(len(set(which)))))
            self.assertEqual(sorted(set(which)), [n for at, n in enumerate(which) if n not in which[:at]])

    def test_row_values_of_the_helper(self):
        self.assertEqual(row_value(SHAPE, 2, "b", 1), readings.row_value(SHAPE, 2, 1, 1))


if __name__ == "__main__":
    unittest.main()
