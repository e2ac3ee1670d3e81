"""[47]: what lies beneath directories, paths, and units that are put and freed."""

import random
import unittest

from homes import drawn_home, drawn_right_home, home_with, told_place, units

from plugproof.drafts import Draft
from plugproof.errors import Refused
from plugproof.names import (
    are_right, check_path, child_of, children_of, found_at, free_cell, free_dir, free_row, is_below, is_path, place_of,
    put_dir, put_row, row_found, walked,
)
from plugproof.places import is_right
from plugproof.readings import dir_at, row_at
from plugproof.shape import NAMES, Shape, number_of

SHAPE = Shape(10, 11, 3, 2, 2)


def draft_of(home):
    return Draft(SHAPE, home, [0] * SHAPE.blocks, {})


class NamesTest(unittest.TestCase):
    def refused(self, word, call, *arguments):
        with self.assertRaises(Refused) as caught:
            call(*arguments)
        self.assertEqual(caught.exception.word, word, arguments)


class ChildrenTest(unittest.TestCase):
    def test_children_of(self):
        home = home_with(SHAPE, {9: (0, "b"), 3: (0, "z"), 4: (3, "a")}, {10: (0, "aa", 0), 2: (0, "a", 1), 0: (3, "k", 1)})
        self.assertEqual(children_of(home, SHAPE, 0), [(25, 0, 3), (1, 0, 9), (0, 1, 2), (26, 1, 10)])
        self.assertEqual(children_of(home, SHAPE, 3), [(0, 0, 4), (10, 1, 0)])
        self.assertEqual((children_of(home, SHAPE, 4), children_of(home, SHAPE, 1)), ([], []))

    def test_child_of(self):
        home = home_with(SHAPE, {5: (1, "b"), 4: (1, "b"), 7: (0, "k")}, {1: (1, "b", 0), 3: (1, "c", 0), 2: (1, "c", 1)})
        self.assertEqual(child_of(home, SHAPE, 1, 1), (0, 4))
        self.assertEqual(child_of(home, SHAPE, 1, 2), (1, 2))
        self.assertEqual(child_of(home, SHAPE, 0, 10), (0, 7))
        for up, name in ((1, 0), (0, 1), (7, 10), (4, 1)):
            self.assertIsNone(child_of(home, SHAPE, up, name))

    def test_drawn_homes(self):
        draw = random.Random(47)
        for _ in range(200):
            home = drawn_home(draw, SHAPE)
            places = [(unit, told_place(SHAPE, home, unit)) for unit in units(SHAPE)]
            for up in range(SHAPE.dirs + 1):
                expected = [(place[1], int(unit[0] == "row"), unit[1]) for unit, place in places if place and place[0] == up]
                self.assertEqual(children_of(home, SHAPE, up), expected)
                for name in (0, 1, NAMES - 1):
                    first = ([told[1:] for told in expected if told[0] == name] + [None])[0]
                    self.assertEqual(child_of(home, SHAPE, up, name), first)

    def test_is_below(self):
        home = home_with(
            SHAPE, {2: (0, "a"), 3: (2, "a"), 4: (3, "a"), 5: (6, "a"), 6: (5, "a"), 7: (5, "b"), 8: (1, "a"), 9: (70, "a")},
        )
        below = {0: [0, 2, 3, 4], 1: [1, 8], 2: [2, 3, 4], 3: [3, 4], 4: [4], 5: [5, 6, 7], 6: [5, 6, 7], 7: [7], 8: [8], 9: [9]}
        for top in range(10):
            self.assertEqual([number for number in range(10) if is_below(home, SHAPE, number, top)], below[top])
        self.assertIs(is_below(home, SHAPE, 4, 0), True)
        self.assertIs(is_below(home, SHAPE, 7, 0), False)

    def test_is_below_at_the_end_of_the_longest_way(self):
        shape = Shape(40, 1, 1, 1, 1)
        home = home_with(shape, {j: (0 if j == 39 else j + 1, "a") for j in range(2, 40)})
        self.assertTrue(is_below(home, shape, 2, 0))
        self.assertTrue(is_below(home, shape, 2, 39))
        self.assertFalse(is_below(home, shape, 2, 1))
        self.assertFalse(is_below(home, shape, 39, 38))

    def test_are_right(self):
        draw = random.Random(470)
        told = set()
        for _ in range(300):
            shape = Shape(draw.randint(2, 5), draw.randint(1, 3), 1, 1, 1)
            home = drawn_home(draw, shape)
            told.add(is_right(shape, home))
            self.assertIs(are_right(home, shape), is_right(shape, home))
        self.assertEqual(told, {True, False})
        self.assertIs(are_right(drawn_right_home(draw, SHAPE), SHAPE), True)


class PathsTest(NamesTest):
    def setUp(self):
        self.home = home_with(
            SHAPE, {2: (0, "a"), 3: (2, "b"), 4: (1, "a"), 5: (4, "zzzz")},
            {0: (0, "f", 0), 1: (3, "g", 1), 2: (1, "a", 2), 3: (1, "h", 2), 4: (5, "a", 0)},
        )

    def test_what_is_a_path(self):
        for path in ((), [], ("a",), ["a", "zzzz"], ("found",), ["found"], ("found", "a", "b"), ("a",) * 50):
            self.assertIs(is_path(path), True)
            self.assertEqual(check_path(path), tuple(path))
            self.assertIsInstance(check_path(path), tuple)
        for thing in (
            ("",), ("abcde",), ("a", "found"), ("found", "found"), ("founds",), ("A",), ("a", ""), ("a", None), (0,), (None,),
            "a", "found", "", None, 5, {"a": 1}, {}, (("a",),), ("a/b",), ["found", "abcde"], (b"a",), (True,), ("Found",),
        ):
            self.assertIs(is_path(thing), False, thing)
            for call in (lambda thing: check_path(thing), self.place, self.at, self.row):
                self.refused("path", call, thing)

    def place(self, path):
        return place_of(self.home, SHAPE, path)

    def at(self, path):
        return found_at(self.home, SHAPE, path)

    def row(self, path):
        return row_found(self.home, SHAPE, path)

    def test_walked(self):
        for names, told in (
            ((), 0), (("found",), 1), (("a",), 2), (("a", "b"), 3), (("found", "a"), 4), (["found", "a", "zzzz"], 5),
        ):
            self.assertEqual(walked(self.home, SHAPE, names), told)
        for names, word in (
            (("b",), "missing"), (("f",), "nodir"), (("f", "x"), "nodir"), (("a", "b", "g", "x"), "nodir"),
            (("a", "x", "f"), "missing"), (("found", "b"), "missing"), (("found", "h"), "nodir"),
        ):
            self.refused(word, walked, self.home, SHAPE, names)

    def test_place_of(self):
        for path, told in (
            (("a",), (0, "a")), (["q"], (0, "q")), (("a", "b", "g"), (3, "g")), (("a", "b", "new"), (3, "new")),
            (("found", "q"), (1, "q")), (("found", "a", "zzzz", "a"), (5, "a")), (["found", "a", "k"], (4, "k")),
        ):
            self.assertEqual(self.place(path), (told[0], number_of(told[1])))
        for path in ((), [], ("found",), ["found"]):
            self.refused("root", self.place, path)
        for path in (("x", "a"), ("a", "x", "a"), ("found", "x", "y"), ("x", "f", "y")):
            self.refused("missing", self.place, path)
        for path in (("f", "a"), ("f", "x", "y"), ("a", "b", "g", "h"), ("found", "h", "x")):
            self.refused("nodir", self.place, path)

    def test_found_at(self):
        for path, told in (
            ((), (0, 0)), ([], (0, 0)), (("found",), (0, 1)), (("a",), (0, 2)), (("a", "b"), (0, 3)), (("f",), (1, 0)),
            (("a", "b", "g"), (1, 1)), (("found", "a"), (0, 4)), (("found", "h"), (1, 3)), (["found", "a", "zzzz"], (0, 5)),
        ):
            self.assertEqual(self.at(path), told)
        for path in (("q",), ("found", "b"), ("a", "b", "k"), ("q", "a"), ("a", "q", "b")):
            self.refused("missing", self.at, path)
        for path in (("f", "a"), ("found", "h", "a")):
            self.refused("nodir", self.at, path)

    def test_row_found(self):
        for path, told in ((("f",), 0), (("a", "b", "g"), 1), (("found", "h"), 3), (("found", "a", "zzzz", "a"), 4)):
            self.assertEqual(self.row(path), told)
        for path in ((), ("found",), ("a",), ("a", "b"), ("found", "a")):
            self.refused("isdir", self.row, path)
        self.refused("missing", self.row, ("q",))
        self.refused("missing", self.row, ("a", "q"))
        self.refused("nodir", self.row, ("f", "q"))


class UnitsTest(NamesTest):
    def test_free_dir(self):
        draft = draft_of(home_with(SHAPE, {2: (0, "a"), 3: (0, "b"), 5: (70, "c")}))
        told = []
        for _ in range(5):
            told.append(free_dir(draft))
            put_dir(draft, told[-1], 0, 5)
        self.assertEqual(told, [4, 6, 7, 8, 9])
        self.refused("full", free_dir, draft)
        self.refused("full", free_dir, Draft(Shape(2, 1, 1, 1, 1), Shape(2, 1, 1, 1, 1).empty_home(), [0], {}))

    def test_free_row(self):
        draft = draft_of(home_with(SHAPE, {}, {number: (0, "a", 0) for number in range(11) if number not in (0, 9)}))
        draft.put_cell(SHAPE.row_cell(9), -5)
        self.assertEqual(free_row(draft), 0)
        put_row(draft, 0, 0, 0, 0)
        self.assertEqual(free_row(draft), 9)
        put_row(draft, 9, 0, 0, 0)
        self.refused("full", free_row, draft)

    def test_put_dir(self):
        for number in (2, 7, 8, 9):
            for place in ((0, 0), (1, NAMES - 1), (9, 12345)):
                draft = draft_of(SHAPE.empty_home())
                put_dir(draft, number, *place)
                self.assertEqual(dir_at(draft.home, SHAPE, number), place)
                self.assertEqual(list(draft.changes), [SHAPE.dir_cell(number)[0]])
        self.assertEqual(draft.cell(SHAPE.dir_cell(9)), 1 + 9 * NAMES + 12345)

    def test_put_row(self):
        for number in (0, 7, 8, 10):
            for row in ((0, 0, 0), (1, NAMES - 1, 2), (9, 12345, 1)):
                draft = draft_of(SHAPE.empty_home())
                put_row(draft, number, *row)
                self.assertEqual(row_at(draft.home, SHAPE, number), row)
                self.assertEqual(list(draft.changes), [SHAPE.row_cell(number)[0]])
        self.assertEqual(draft.cell(SHAPE.row_cell(10)), 1 + (9 * NAMES + 12345) * 3 + 1)

    def test_free_cell(self):
        home = home_with(SHAPE, {number: (0, "a") for number in range(2, 10)}, {number: (0, "b", 0) for number in range(11)})
        for number in (2, 8, 9):
            draft = draft_of(home)
            free_cell(draft, 0, number)
            self.assertEqual(draft.cell(SHAPE.dir_cell(number)), 0)
            self.assertEqual([free_dir(draft), len(draft.changes)], [number, 1])
            self.refused("full", free_row, draft)
        for number in (0, 2, 8, 10):
            draft = draft_of(home)
            free_cell(draft, 1, number)
            self.assertEqual(draft.cell(SHAPE.row_cell(number)), 0)
            self.assertEqual([free_row(draft), len(draft.changes)], [number, 1])
            self.refused("full", free_dir, draft)


if __name__ == "__main__":
    unittest.main()
