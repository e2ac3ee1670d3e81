"""[30], [31]: units, where they lie, and what is wrong with it."""

import random
import unittest

from homes import drawn_home, drawn_right_home, home_with, put_cell, told_place, unit_place, units

from plugproof.places import all_units, faults, is_right, is_unit, place_of
from plugproof.shape import NAMES, Shape

SHAPE = Shape(10, 9, 2, 1, 1)


def plain_faults(shape, home):
    """All faults, from the cells alone: a unit at a time, and rings by walking on and on."""
    places = {unit: told_place(shape, home, unit) for unit in units(shape)}
    wrong = [("wrong", unit) for unit in places if places[unit] and places[unit][0] >= shape.dirs]
    told = []
    for up in range(shape.dirs):
        beneath = [unit for unit in places if places[unit] and places[unit][0] == up]
        if beneath and up > 1 and places[("dir", up)] is None:
            told.append(("free", up, tuple(beneath)))
        for name in sorted({places[unit][1] for unit in beneath}):
            alike = tuple(unit for unit in beneath if places[unit][1] == name)
            if len(alike) > 1 and up != 1:
                told.append(("double", up, name, alike))
    rings = set()
    for start in range(2, shape.dirs):
        walk = [start]
        while len(walk) < 100:
            place = places.get(("dir", walk[-1]))
            if place is None:
                break
            walk.append(place[0])
        else:
            rings.add(tuple(sorted(set(walk[50:]))))
    return tuple(wrong + told + [("ring", ring) for ring in sorted(rings)])


class UnitsTest(unittest.TestCase):
    def test_all_units(self):
        shape = Shape(4, 3, 1, 1, 1)
        expected = [("dir", 2), ("dir", 3), ("row", 0), ("row", 1), ("row", 2)]
        self.assertEqual(all_units(shape), expected)
        self.assertEqual(all_units(Shape(2, 1, 1, 1, 1)), [("row", 0)])
        self.assertEqual(len(all_units(Shape(40, 60, 1, 1, 1))), 98)

    def test_is_unit(self):
        for unit in all_units(SHAPE):
            self.assertIs(is_unit(SHAPE, unit), True)
        for thing in (
            ("dir", 0), ("dir", 1), ("dir", 10), ("dir", -1), ("row", -1), ("row", 9), ("row", True), ("dir", None),
            ("dir", 2.0), ("file", 2), ("dir",), ("dir", 2, 0), ["dir", 2], "dir", None, 5, (), (2, "dir"), ("row", "0"),
        ):
            self.assertIs(is_unit(SHAPE, thing), False, thing)

    def test_place_of(self):
        home = home_with(SHAPE, {2: (0, "a"), 9: (44, "b")}, {8: (3, "z", 1), 0: (10, "aa", 0)})
        put_cell(home, SHAPE.dir_cell(3), -7)
        told = {("dir", 2): (0, 0), ("dir", 9): (44, 1), ("row", 8): (3, 25), ("row", 0): (10, 26)}
        for unit in all_units(SHAPE):
            self.assertEqual(place_of(SHAPE, home, unit), told.get(unit))


class FaultsTest(unittest.TestCase):
    def faulty(self, home, *expected):
        before = dict(home)
        self.assertEqual(faults(SHAPE, home), expected)
        self.assertEqual(plain_faults(SHAPE, home), expected)
        self.assertIs(is_right(SHAPE, home), not expected)
        self.assertEqual(home, before)

    def test_right_homes(self):
        self.faulty(SHAPE.empty_home())
        self.faulty(home_with(
            SHAPE, {2: (0, "a"), 3: (2, "a"), 4: (1, "a"), 5: (1, "a"), 6: (4, "a")},
            {0: (0, "b", 0), 1: (2, "b", 0), 2: (1, "a", 0), 3: (6, "a", 1)},
        ))

    def test_wrong(self):
        self.faulty(home_with(SHAPE, {3: (10, "a")}), ("wrong", ("dir", 3)))
        self.faulty(home_with(SHAPE, {9: (9999, "a"), 2: (9, "b")}, {8: (10, "a", 0), 0: (11, "a", 1)}),
                    ("wrong", ("dir", 9)), ("wrong", ("row", 0)), ("wrong", ("row", 8)))

    def test_free(self):
        self.faulty(home_with(SHAPE, {3: (2, "a")}, {4: (2, "b", 0)}), ("free", 2, (("dir", 3), ("row", 4))))
        self.faulty(
            home_with(SHAPE, {5: (3, "b"), 4: (3, "a")}, {0: (2, "a", 0), 4: (3, "b", 0), 6: (3, "a", 1)}),
            ("free", 2, (("row", 0),)), ("free", 3, (("dir", 4), ("dir", 5), ("row", 4), ("row", 6))),
            ("double", 3, 0, (("dir", 4), ("row", 6))), ("double", 3, 1, (("dir", 5), ("row", 4))),
        )

    def test_double(self):
        self.faulty(
            home_with(SHAPE, {5: (0, "b"), 4: (0, "a"), 3: (0, "b")}, {2: (0, "a", 0), 1: (0, "a", 1), 3: (4, "b", 0)}),
            ("double", 0, 0, (("dir", 4), ("row", 1), ("row", 2))), ("double", 0, 1, (("dir", 3), ("dir", 5))),
        )

    def test_doubles_by_numbers_of_names(self):
        home = home_with(SHAPE, {}, {0: (0, "aa", 0), 1: (0, "b", 0), 2: (0, "aa", 0), 3: (0, "b", 0)})
        self.faulty(home, ("double", 0, 1, (("row", 1), ("row", 3))), ("double", 0, 26, (("row", 0), ("row", 2))))

    def test_found_may_have_alike_names(self):
        self.faulty(home_with(SHAPE, {5: (1, "b"), 4: (1, "b")}, {2: (1, "b", 0), 1: (1, "b", 1)}))

    def test_beneath_wrong_units_names_are_no_fault_but_beneath_wrong_directories(self):
        self.faulty(home_with(SHAPE, {}, {0: (10, "a", 0), 1: (10, "a", 0)}),
                    ("wrong", ("row", 0)), ("wrong", ("row", 1)))
        self.faulty(home_with(SHAPE, {4: (50, "a")}, {0: (4, "a", 0), 1: (4, "a", 0)}),
                    ("wrong", ("dir", 4)), ("double", 4, 0, (("row", 0), ("row", 1))))

    def test_rings(self):
        self.faulty(home_with(SHAPE, {4: (4, "a")}), ("ring", (4,)))
        self.faulty(home_with(SHAPE, {2: (9, "a"), 9: (5, "a"), 5: (2, "a")}), ("ring", (2, 5, 9)))
        # Directories 2, 4 and 7 hang on rings as tails; 3 and 6 are the first ones walked from besides.
        self.faulty(
            home_with(SHAPE, {2: (8, "a"), 8: (9, "a"), 9: (8, "b"), 3: (6, "a"), 6: (3, "a"), 4: (2, "a"), 5: (5, "z"),
                              7: (5, "b")}),
            ("ring", (3, 6)), ("ring", (5,)), ("ring", (8, 9)),
        )

    def test_all_kinds_in_their_order(self):
        self.faulty(
            home_with(SHAPE, {2: (3, "a"), 3: (2, "a"), 4: (7, "b"), 5: (7, "b"), 8: (99, "a"), 9: (1, "a")},
                      {0: (0, "c", 0), 1: (0, "c", 0), 2: (3, "a", 1), 3: (8, "d", 0), 4: (1, "a", 0), 8: (12, "a", 0)}),
            ("wrong", ("dir", 8)), ("wrong", ("row", 8)), ("double", 0, 2, (("row", 0), ("row", 1))),
            ("double", 3, 0, (("dir", 2), ("row", 2))), ("free", 7, (("dir", 4), ("dir", 5))),
            ("double", 7, 1, (("dir", 4), ("dir", 5))), ("ring", (2, 3)),
        )

    def test_drawn_homes(self):
        draw = random.Random(31)
        kinds = set()
        for _ in range(1500):
            shape = Shape(draw.randint(2, 7), draw.randint(1, 5), draw.randint(1, 2), 1, 1)
            home = drawn_home(draw, shape)
            expected = plain_faults(shape, home)
            self.assertEqual(faults(shape, home), expected)
            self.assertIs(is_right(shape, home), not expected)
            kinds |= {fault[0] for fault in expected} or {"right"}
        self.assertEqual(kinds, {"wrong", "free", "double", "ring", "right"})

    def test_drawn_right_homes(self):
        draw = random.Random(32)
        for _ in range(200):
            shape = Shape(draw.randint(2, 9), draw.randint(1, 9), 2, 1, 1)
            self.assertEqual(faults(shape, drawn_right_home(draw, shape)), ())


class GreatestTest(unittest.TestCase):
    def test_one_ring_of_all_directories(self):
        shape = Shape(40, 60, 40, 200, 4)
        home = home_with(shape, {j: (2 if j == 39 else j + 1, "a") for j in range(2, 40)})
        self.assertEqual(faults(shape, home), (("ring", tuple(range(2, 40))),))

    def test_all_rows_by_one_name(self):
        shape = Shape(40, 60, 40, 200, 4)
        rows = tuple(("row", i) for i in range(60))
        home = home_with(shape, rows={i: (0, "zzzz", i % 40) for i in range(60)})
        self.assertEqual(faults(shape, home), (("double", 0, NAMES - 1, rows),))
        home = home_with(shape, rows={i: (39, "zzzz", i % 40) for i in range(60)})
        self.assertEqual(faults(shape, home), (("free", 39, rows), ("double", 39, NAMES - 1, rows)))
        home = home_with(shape, rows={i: (40, "zzzz", i % 40) for i in range(60)})
        self.assertEqual(faults(shape, home), tuple(("wrong", row) for row in rows))

    def test_the_longest_way_is_no_ring(self):
        shape = Shape(40, 60, 40, 200, 4)
        home = home_with(shape, {j: (0 if j == 39 else j + 1, "a") for j in range(2, 40)}, {59: (2, "a", 0)})
        self.assertTrue(is_right(shape, home))
        put_cell(home, unit_place(shape, ("dir", 39)), 1 + 39 * NAMES)
        self.assertEqual(faults(shape, home), (("double", 39, 0, (("dir", 38), ("dir", 39))), ("ring", (39,))))


if __name__ == "__main__":
    unittest.main()
