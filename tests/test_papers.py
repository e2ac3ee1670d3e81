"""[36]: papers that show of a mending that less will not do."""

import random
import unittest

from homes import drawn_home, drawn_prices, drawn_right_home, home_with, units

from plugproof.mending import mended
from plugproof.papers import Paper, paper_holds, paper_of
from plugproof.parts import Part, need_of, parts_of
from plugproof.shape import Shape
from plugproof.storeerrors import BadPrices

SHAPE = Shape(10, 9, 2, 1, 1)
PRICES = {("dir", 2): 3, ("row", 1): 2, ("dir", 7): 9}


def faulty_home():
    return home_with(
        SHAPE, {2: (3, "k"), 3: (2, "l"), 4: (7, "b"), 6: (1, "c"), 8: (99, "aa")},
        {0: (0, "c", 0), 1: (0, "c", 1), 3: (8, "d", 0), 8: (0, "e", 1)},
    )


class PaperTest(unittest.TestCase):
    def setUp(self):
        self.home = faulty_home()
        self.paper = paper_of(SHAPE, self.home, PRICES)

    def holds(self, parts=None, needs=None, units=None):
        """Whether the paper holds with these in the place of its own."""
        paper = Paper(
            self.paper.parts if parts is None else parts,
            self.paper.needs if needs is None else needs,
            self.paper.units if units is None else units,
        )
        return paper_holds(SHAPE, self.home, PRICES, paper)

    def test_what_it_tells(self):
        self.assertEqual(self.paper.parts, parts_of(SHAPE, self.home))
        self.assertEqual(self.paper.needs, (1, 1, 1, 0, 1, 0))
        self.assertEqual(self.paper.units, (("dir", 3), ("dir", 4), ("dir", 8), ("row", 0)))
        self.assertEqual(self.paper.units, mended(SHAPE, self.home, PRICES).units)
        self.assertIs(self.holds(), True)

    def test_equality(self):
        one, other = self.paper, paper_of(SHAPE, self.home, PRICES)
        self.assertTrue(one == other)
        self.assertTrue(one == Paper(parts=other.parts, needs=other.needs, units=other.units))
        for unlike in (
            Paper((), one.needs, one.units), Paper(one.parts, (), one.units), Paper(one.parts, one.needs, ()),
            (one.parts, one.needs, one.units), None,
        ):
            self.assertFalse(one == unlike)
            self.assertTrue(one != unlike)

    def test_the_order_is_free(self):
        self.assertTrue(self.holds(self.paper.parts[::-1], self.paper.needs[::-1], self.paper.units[::-1]))

    def test_parts_that_need_nothing_may_be_missing(self):
        needing = [part for part, need in zip(self.paper.parts, self.paper.needs) if need]
        self.assertTrue(self.holds(parts=tuple(needing), needs=(1,) * 4))
        self.assertFalse(self.holds(parts=tuple(needing)))
        self.assertFalse(self.holds(parts=self.paper.parts[1:], needs=self.paper.needs[1:]))
        self.assertFalse(self.holds(parts=self.paper.parts[1:]))
        self.assertFalse(self.holds(parts=(), needs=()))

    def test_units_too_much_or_too_little(self):
        units_told = self.paper.units
        for at in range(len(units_told)):
            self.assertFalse(self.holds(units=units_told[:at] + units_told[at + 1:]))
            self.assertFalse(self.holds(units=units_told[:at] + units_told[at:at + 1] + units_told[at:]))
        for unit in units(SHAPE):
            if unit not in units_told:
                self.assertFalse(self.holds(units=units_told + (unit,)))
        self.assertFalse(self.holds(units=()))

    def test_another_lot_of_units(self):
        # As dear, but not right; and one that is right and as dear, though not the one that was taken.
        self.assertFalse(self.holds(units=(("dir", 3), ("dir", 4), ("dir", 8), ("row", 8))))
        self.home = home_with(SHAPE, {2: (0, "a"), 3: (0, "a")})
        self.paper = paper_of(SHAPE, self.home, PRICES)
        self.assertEqual(self.paper.units, (("dir", 3),))
        self.paper = paper_of(SHAPE, self.home, {})
        for unit in (("dir", 2), ("dir", 3)):
            paper = Paper(self.paper.parts, (1,), (unit,))
            self.assertTrue(paper_holds(SHAPE, self.home, {}, paper))
            self.assertIs(paper_holds(SHAPE, self.home, PRICES, paper), unit == ("dir", 3))

    def test_a_dearer_paper_of_a_right_mending(self):
        # All is moved, and the needs say so: but they are not the parts' needs.
        self.assertFalse(self.holds(units=self.paper.units + (("dir", 6),), needs=(1, 1, 1, 1, 1, 0)))

    def test_units_that_are_none(self):
        for unit in (("dir", 0), ("dir", 1), ("dir", 10), ("row", 9), ("row", False), None, 5, "dir", ["dir", 3], ("dir", 3.0)):
            self.assertFalse(self.holds(units=(unit,) + self.paper.units[1:]))
            self.assertFalse(self.holds(units=self.paper.units + (unit,)))

    def test_other_needs(self):
        for at, need in enumerate(self.paper.needs):
            for other in (need + 1, need - 1, need == 1, None, str(need), float(need)):
                needs = self.paper.needs[:at] + (other,) + self.paper.needs[at + 1:]
                self.assertFalse(self.holds(needs=needs), needs)
        self.assertFalse(self.holds(needs=(1, 1, 1, 1, 0, 0)))
        self.assertFalse(self.holds(needs=self.paper.needs + (0,)))
        self.assertFalse(self.holds(needs=self.paper.needs[:-1]))

    def test_parts_that_are_none(self):
        for at, part in enumerate(self.paper.parts):
            for other in (
                Part("wrong" if part.kind != "wrong" else "place", part.dirs, part.units),
                Part(part.kind, part.dirs + (2,), part.units),
                Part(part.kind, part.dirs, part.units[:-1]),
                Part(part.kind, part.dirs, part.units + (("row", 7),)),
                Part(part.kind, part.dirs, (("row", 7),) + part.units[1:]),
                Part(part.kind, part.dirs, part.units + part.units[-1:]),
                Part(part.kind, part.dirs, list(part.units)),
                Part(part.kind, list(part.dirs), part.units),
                Part(part.kind, part.dirs, None), Part(part.kind, None, part.units), Part(None, part.dirs, part.units),
                Part(part.kind, 5, part.units), Part(part.kind, part.dirs, 5), Part(part.kind, part.dirs, (5,)),
                Part(part.kind, part.dirs, tuple(reversed(part.units + part.units))),
                (part.kind, part.dirs, part.units), None, 5,
            ):
                parts = self.paper.parts[:at] + (other,) + self.paper.parts[at + 1:]
                self.assertIs(self.holds(parts=parts), False)

    def test_numbers_of_directories_that_are_none(self):
        for at, part in enumerate(self.paper.parts):
            if part.dirs in ((0,), (1,)):
                other = Part(part.kind, (bool(part.dirs[0]),), part.units)
                self.assertFalse(self.holds(parts=self.paper.parts[:at] + (other,) + self.paper.parts[at + 1:]))

    def test_units_of_parts_that_are_none(self):
        home = home_with(SHAPE, {}, {1: (0, "a", 0)})
        paper = paper_of(SHAPE, home, {})
        self.assertTrue(paper_holds(SHAPE, home, {}, paper))
        paper = Paper((Part("place", (0,), (("row", True),)),), (0,), ())
        self.assertFalse(paper_holds(SHAPE, home, {}, paper))

    def test_a_part_twice(self):
        for part, need in zip(self.paper.parts, self.paper.needs):
            self.assertFalse(self.holds(parts=self.paper.parts + (part,), needs=self.paper.needs + (need,)))
            again = Part(part.kind, part.dirs, part.units)
            self.assertFalse(self.holds(parts=(again,) + self.paper.parts, needs=(need,) + self.paper.needs))

    def test_parts_twice_with_units_for_both(self):
        # Prices would add up to the needs told, and the home would be right: the part stands twice all the same.
        parts, needs = self.paper.parts + self.paper.parts[:1], self.paper.needs + self.paper.needs[:1]
        self.assertFalse(self.holds(parts=parts, needs=needs, units=self.paper.units + (("dir", 5),)))

    def test_parts_of_another_home(self):
        other = home_with(SHAPE, {2: (3, "k"), 3: (2, "l")})
        paper = paper_of(SHAPE, other, PRICES)
        self.assertTrue(paper_holds(SHAPE, other, PRICES, paper))
        self.assertTrue(paper_holds(SHAPE, SHAPE.empty_home(), PRICES, Paper((), (), ())))
        self.assertFalse(paper_holds(SHAPE, SHAPE.empty_home(), PRICES, paper))

    def test_any_value(self):
        told = (self.paper.parts, self.paper.needs, self.paper.units)
        for value in (None, 0, 7, True, "paper", told, list(told), {}, Part("wrong", (), ()), self.paper.parts):
            self.assertIs(paper_holds(SHAPE, self.home, PRICES, value), False)
        kinds = (None, 5, "abc", True, {}, {1: 2}, [], (None,), ((),), (((),),), ([],), 1.5, ("a", "b"))
        for kind in kinds:
            for place in range(3):
                paper = Paper(*[kind if at == place else value for at, value in enumerate(told)])
                self.assertIs(paper_holds(SHAPE, self.home, PRICES, paper), False)
        for place in range(3):
            paper = Paper(*[list(value) if at == place else value for at, value in enumerate(told)])
            self.assertIs(paper_holds(SHAPE, self.home, PRICES, paper), False)

    def test_prices_that_are_none(self):
        for paper in (self.paper, None):
            for prices in ({("dir", 1): 1}, {("dir", 2): 0}, {("dir", 2): "1"}, {("dir", 2): True}):
                for call in (lambda: paper_of(SHAPE, self.home, prices),
                             lambda: paper_holds(SHAPE, self.home, prices, paper)):
                    with self.assertRaises(BadPrices) as caught:
                        call()
                    self.assertEqual(caught.exception.unit, list(prices)[0])


class DrawnTest(unittest.TestCase):
    def test_papers_of_drawn_homes_hold(self):
        draw = random.Random(36)
        for _ in range(300):
            shape = Shape(draw.randint(2, 8), draw.randint(1, 6), 2, 1, 1)
            home, prices = drawn_home(draw, shape), drawn_prices(draw, shape)
            before = dict(home)
            paper = paper_of(shape, home, prices)
            self.assertTrue(paper_holds(shape, home, prices, paper))
            self.assertEqual(paper.parts, parts_of(shape, home))
            self.assertEqual(paper.needs, tuple(need_of(shape, home, prices, part) for part in paper.parts))
            self.assertEqual(paper.units, mended(shape, home, prices).units)
            needing = [(part, need) for part, need in zip(paper.parts, paper.needs) if need or draw.random() < 0.3]
            less = Paper(tuple(part for part, _ in needing), tuple(need for _, need in needing), paper.units)
            self.assertTrue(paper_holds(shape, home, prices, less))
            for unit in units(shape):
                told = tuple(other for other in paper.units if other != unit)
                other = Paper(paper.parts, paper.needs, told if told != paper.units else told + (unit,))
                self.assertFalse(paper_holds(shape, home, prices, other))
            self.assertEqual(home, before)

    def test_right_homes_need_nothing(self):
        draw = random.Random(360)
        for _ in range(100):
            home = drawn_right_home(draw, SHAPE)
            paper = paper_of(SHAPE, home, {})
            self.assertEqual((paper.needs, paper.units), ((0,) * len(paper.parts), ()))
            self.assertTrue(paper_holds(SHAPE, home, {}, Paper((), (), ())))

    def test_the_greatest_shape(self):
        shape = Shape(40, 60, 40, 200, 4)
        dirs = {j: (2 if j == 39 else j + 1, "a") for j in range(2, 40)}
        home = home_with(shape, dirs, {i: (2 + i % 38, "a", i % 40) for i in range(60)})
        paper = paper_of(shape, home, {})
        self.assertEqual((paper.needs, len(paper.units)), ((60,), 60))
        self.assertTrue(paper_holds(shape, home, {}, paper))
        self.assertFalse(paper_holds(shape, home, {}, Paper(paper.parts, paper.needs, paper.units[1:])))
        home = home_with(shape, {j: (0, "a") for j in range(2, 40)}, {i: (39, "a", 0) for i in range(60)})
        paper = paper_of(shape, home, {})
        self.assertEqual(paper.needs, (37, 59))
        self.assertTrue(paper_holds(shape, home, {}, paper))


if __name__ == "__main__":
    unittest.main()
