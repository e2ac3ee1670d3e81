"""[62]: homes as lines, there and back."""

import random
import unittest

from homes import drawn_files, drawn_home
from systems import watched

from plugproof.calls import done
from plugproof.errors import BadImage, BadShape
from plugproof.images import read_image, write_image
from plugproof.shape import Shape

SHAPE = Shape(4, 4, 3, 6, 2)
FIRST = "shape 4 4 3 6 2"
NO_NUMBERS = ("-0", "01", "+1", "-01", "00", "1.0", "", "x", "1,2", "--1", "-", "1_0", "0x1", "\t1", "\u0661", "one")


def home_of(plates):
    return {plate: plates.get(plate, (0,) * 8) for plate in range(SHAPE.plates)}


class ThereAndBackTest(unittest.TestCase):
    def test_an_empty_home(self):
        self.assertEqual(write_image(SHAPE, SHAPE.empty_home()), (FIRST, "3 6 6 0 0 0 0 0 0"))
        self.assertEqual(read_image((FIRST, "3 6 6 0 0 0 0 0 0")), (SHAPE, SHAPE.empty_home()))

    def test_plates_of_eight_0s(self):
        self.assertEqual(write_image(SHAPE, home_of({})), (FIRST,))
        self.assertEqual(read_image((FIRST,)), (SHAPE, home_of({})))
        self.assertEqual(read_image((FIRST, "0 0 0 0 0 0 0 0 0", "12 0 0 0 0 0 0 0 0")), (SHAPE, home_of({})))

    def test_some_plates(self):
        home = home_of({0: (1, 0, 0, 0, 0, 0, 0, 0), 5: (-1, 2, -3, 4, -5, 6, -7, 8), 12: (0, 0, 0, 0, 0, 0, 0, -9)})
        lines = (FIRST, "0 1 0 0 0 0 0 0 0", "5 -1 2 -3 4 -5 6 -7 8", "12 0 0 0 0 0 0 0 -9")
        self.assertEqual(SHAPE.plates, 13)
        self.assertEqual(write_image(SHAPE, home), lines)
        self.assertEqual(read_image(lines), (SHAPE, home))
        self.assertEqual(read_image(list(lines)), (SHAPE, home))

    def test_kinds(self):
        lines = write_image(SHAPE, SHAPE.empty_home())
        self.assertIs(type(lines), tuple)
        shape, home = read_image(lines)
        self.assertIsInstance(shape, Shape)
        self.assertEqual(list(home), list(range(SHAPE.plates)))
        self.assertTrue(all(isinstance(cells, tuple) and len(cells) == 8 for cells in home.values()))

    def test_lines_of_2000_signs(self):
        for number in (10 ** 246, -10 ** 245):
            home = home_of({7: (number,) * 8, 8: (0,) * 7 + (number ** 8,)})
            lines = write_image(SHAPE, home)
            self.assertTrue(all(1900 < len(line) <= 2000 for line in lines[1:]))
            self.assertEqual(read_image(lines), (SHAPE, home))

    def test_drawn_homes(self):
        draw = random.Random(62)
        for _ in range(60):
            shape = Shape(draw.randint(2, 40), draw.randint(1, 60), draw.randint(1, 40), draw.randint(1, 200), draw.randint(1, 4))
            home = drawn_files(draw, shape, 5) if draw.random() < 0.5 else drawn_home(draw, shape)
            for plate in draw.sample(range(shape.plates), min(9, shape.plates)):
                home[plate] = tuple(draw.choice((0, 0, draw.randint(-10 ** 9, 10 ** 9))) for _ in range(8))
            before = dict(home)
            lines = write_image(shape, home)
            self.assertEqual(home, before)
            self.assertEqual(read_image(lines), (shape, home))
            self.assertEqual(len(lines), 1 + len([cells for cells in home.values() if any(cells)]))

    def test_the_greatest_and_the_least_shape(self):
        for numbers in ((2, 1, 1, 1, 1), (40, 60, 40, 200, 4)):
            shape = Shape(*numbers)
            self.assertEqual(read_image(write_image(shape, shape.empty_home())), (shape, shape.empty_home()))

    def test_a_home_that_calls_made(self):
        system = watched(SHAPE)
        for call in (("make", 0, ("a",)), ("create", 1, ("a", "b")), ("open", 1, ("a", "b"), "write"), ("write", 1, 0, (5, -7))):
            self.assertEqual(done(system, call)[0], "ok")
        self.assertEqual(write_image(SHAPE, system.home()), (
            FIRST, "0 3 0 0 0 0 0 0 0", "1 0 0 1 0 0 0 0 0", "2 2851528 0 0 0 0 0 0 0", "3 6 6 0 0 0 0 0 0", "4 2 1 3 1 0 0 0 0",
            "7 5 -7 0 0 0 0 0 0",
        ))


class BadImageTest(unittest.TestCase):
    def bad(self, lines, line, word):
        with self.assertRaises(BadImage) as caught:
            read_image(lines)
        self.assertEqual((caught.exception.line, caught.exception.word), (line, word), lines)

    def test_no_line(self):
        self.bad((), 0, 0)
        self.bad([], 0, 0)

    def test_another_first_word(self):
        for word in ("", "Shape", "disk", "4", "shapes", "\tshape"):
            self.bad((word + " 4 4 3 6 2",), 0, 0)
        self.bad((" " + FIRST,), 0, 0)
        self.bad(("4 4 3 6 2",), 0, 0)

    def test_numbers_of_the_shape(self):
        words = FIRST.split(" ")
        for place in range(1, 6):
            for word in NO_NUMBERS:
                self.bad((" ".join(words[:place] + [word] + words[place + 1:]), "x"), 0, place)
            self.bad((" ".join(words[:place]), "x"), 0, place)
            self.bad((" ".join(words[:place] + [""] + words[place:]),), 0, place)
        for more in (" 1", " ", " x", "  "):
            self.bad((FIRST + more,), 0, 6)

    def test_bad_shapes(self):
        words = FIRST.split(" ")
        for place, name, low, high in ((1, "dirs", 2, 40), (2, "rows", 1, 60), (3, "files", 1, 40), (4, "blocks", 1, 200), (5, "users", 1, 4)):
            for number in (low - 1, high + 1, -5, 10 ** 50):
                line = " ".join(words[:place] + [str(number)] + words[place + 1:])
                for lines in ((line,), (line, "x"), (line, "", "")):
                    with self.assertRaises(BadShape) as caught:
                        read_image(lines)
                    self.assertEqual(caught.exception.word, name)
        with self.assertRaises(BadShape) as caught:
            read_image(("shape 4 0 0 0 0", "x"))
        self.assertEqual(caught.exception.word, "rows")

    def test_the_first_line_is_read_ahead_of_its_shape(self):
        self.bad(("shape 1 4 3 6 x",), 0, 5)
        self.bad(("shape 1 4 3 6",), 0, 5)
        self.bad(("shape 1 4 3 6 2 2",), 0, 6)

    def test_plates(self):
        good = "5 1 2 3 4 5 6 7 8"
        for word in NO_NUMBERS + ("-1", "13", "99", "shape"):
            self.bad((FIRST, word + " 1 2 3 4 5 6 7 8"), 1, 0)
        for word in ("5", "4", "0", "-6"):
            self.bad((FIRST, good, word + " 1 2 3 4 5 6 7 8"), 2, 0)
            self.bad((FIRST, good, word + " 0 0 0 0 0 0 0 0"), 2, 0)
            self.bad((FIRST, "5 0 0 0 0 0 0 0 0", word + " 1 2 3 4 5 6 7 8"), 2, 0)
            self.bad((FIRST, good, word), 2, 0)

    def test_cells(self):
        words = "5 1 2 3 4 5 6 7 8".split(" ")
        for place in range(1, 9):
            for word in NO_NUMBERS:
                self.bad((FIRST, "0 1 0 0 0 0 0 0 0", " ".join(words[:place] + [word] + words[place + 1:]), "x"), 2, place)
            self.bad((FIRST, " ".join(words[:place])), 1, place)
            self.bad((FIRST, " ".join(words[:place] + [""] + words[place:])), 1, place)
        for more in (" 9", " ", " x", "  "):
            self.bad((FIRST, " ".join(words) + more), 1, 9)

    def test_figures(self):
        for figures in (4001, 4300, 4301, 5000):
            for word in ("9" * figures, "-" + "9" * figures):
                self.bad((FIRST, "5 1 2 3 4 5 6 7 " + word), 1, 8)
                self.bad((FIRST, word + " 1 2 3 4 5 6 7 8"), 1, 0)
                self.bad(("shape 4 4 " + word + " 6 2",), 0, 3)

    def test_empty_lines_and_blanks(self):
        self.bad(("",), 0, 0)
        self.bad((FIRST, ""), 1, 0)
        self.bad((FIRST, "5 1 2 3 4 5 6 7 8", ""), 2, 0)
        self.bad((FIRST, "", "5 1 2 3 4 5 6 7 8"), 1, 0)
        self.bad((FIRST, " 5 1 2 3 4 5 6 7 8"), 1, 0)


if __name__ == "__main__":
    unittest.main()
