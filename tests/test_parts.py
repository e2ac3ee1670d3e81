"""[32], [34], [35]: prices, parts and their needs, and which least lots of units there are."""

import itertools
import random
import unittest

from homes import (
    dir_value, drawn_home, drawn_prices, home_with, lots_of, moved, price_of, put_cell, row_value, unit_place, units,
)

from plugproof.parts import Part, count_lots, least_price, need_of, parts_of, possible_units, sure_units
from plugproof.places import is_right
from plugproof.shape import Shape
from plugproof.storeerrors import BadPrices

SHAPE = Shape(10, 9, 2, 1, 1)


def told(parts):
    return [(part.kind, part.dirs, part.units) for part in parts]


def least_lots(shape, home, prices):
    """All least lots, by going through all: moved to found a lot leaves the rest as right as it can be."""
    good = [lot for lot in lots_of(units(shape)) if is_right(shape, moved(shape, home, lot))]
    least = min(price_of(prices, lot) for lot in good)
    return [lot for lot in good if price_of(prices, lot) == least], least


def least_within(shape, home, prices, part):
    """The least price of a lot of a part's units, all units of the others being moved away."""
    others = tuple(unit for unit in units(shape) if unit not in part.units)
    good = [lot for lot in lots_of(part.units) if is_right(shape, moved(shape, home, lot + others))]
    return min(price_of(prices, lot) for lot in good)


def any_values(shape, unit):
    """What may stand in a unit's cell, but for names that say no more than these: free, wrong, or anywhere."""
    places = [(up, name) for up in range(shape.dirs + 1) for name in ("a", "b")] + [(0, "c"), (1, "c")]
    if unit[0] == "dir":
        return [0] + [dir_value(up, name) for up, name in places]
    return [0] + [row_value(shape, up, name, 0) for up, name in places]


class PartTest(unittest.TestCase):
    def test_attributes_and_equality(self):
        part = Part("ring", (2, 3), (("dir", 2), ("dir", 3)))
        self.assertEqual((part.kind, part.dirs, part.units), ("ring", (2, 3), (("dir", 2), ("dir", 3))))
        self.assertTrue(part == Part(kind="ring", dirs=(2, 3), units=(("dir", 2), ("dir", 3))))
        for other in (
            Part("place", (2, 3), part.units), Part("ring", (2,), part.units), Part("ring", (2, 3), (("dir", 2),)),
            ("ring", (2, 3), part.units), None,
        ):
            self.assertFalse(part == other)
            self.assertTrue(part != other)


class PartsOfTest(unittest.TestCase):
    def test_none(self):
        self.assertEqual(parts_of(SHAPE, SHAPE.empty_home()), ())

    def test_kinds_and_their_order(self):
        home = home_with(
            SHAPE, {2: (3, "a"), 3: (2, "a"), 4: (7, "b"), 6: (6, "k"), 8: (99, "a"), 9: (1, "a")},
            {0: (0, "c", 0), 1: (9, "c", 0), 2: (3, "a", 1), 3: (8, "d", 0), 4: (1, "a", 0), 7: (7, "b", 0),
             8: (12, "a", 0)},
        )
        parts = parts_of(SHAPE, home)
        self.assertIsInstance(parts, tuple)
        self.assertEqual(told(parts), [
            ("wrong", (), (("dir", 8),)),
            ("wrong", (), (("row", 8),)),
            ("ring", (2, 3), (("dir", 2), ("dir", 3), ("row", 2))),
            ("ring", (6,), (("dir", 6),)),
            ("place", (0,), (("row", 0),)),
            ("place", (1,), (("dir", 9), ("row", 4))),
            ("free", (7,), (("dir", 4), ("dir", 7), ("row", 7))),
            ("place", (8,), (("row", 3),)),
            ("place", (9,), (("row", 1),)),
        ])

    def test_a_tail_of_a_ring_lies_in_its_part(self):
        home = home_with(SHAPE, {4: (5, "a"), 5: (4, "a"), 2: (5, "b"), 3: (2, "a")}, {0: (2, "x", 0), 1: (4, "x", 0)})
        self.assertEqual(told(parts_of(SHAPE, home)), [
            ("ring", (4, 5), (("dir", 2), ("dir", 4), ("dir", 5), ("row", 1))),
            ("place", (2,), (("dir", 3), ("row", 0))),
        ])

    def test_no_common_unit_and_none_forgotten(self):
        draw = random.Random(340)
        for _ in range(300):
            shape = Shape(draw.randint(2, 8), draw.randint(1, 6), 2, 1, 1)
            home = drawn_home(draw, shape)
            parts = parts_of(shape, home)
            within = [unit for part in parts for unit in part.units]
            self.assertEqual(len(within), len(set(within)))
            for part in parts:
                self.assertEqual(list(part.units), sorted(part.units))
            for unit in units(shape):
                plate, at = unit_place(shape, unit)
                if home[plate][at] > 0:
                    self.assertIn(unit, within)


class NeedsTest(unittest.TestCase):
    def needs(self, home, prices, *expected):
        parts = parts_of(SHAPE, home)
        self.assertEqual(tuple(need_of(SHAPE, home, prices, part) for part in parts), expected)
        self.assertEqual(least_price(SHAPE, home, prices), sum(expected))

    def lots(self, home, prices, many, sure, possible):
        self.assertEqual(count_lots(SHAPE, home, prices), many)
        self.assertEqual((sure_units(SHAPE, home, prices), possible_units(SHAPE, home, prices)), (sure, possible))

    def test_right(self):
        home = home_with(SHAPE, {2: (0, "a")}, {0: (1, "a", 0), 1: (1, "a", 0)})
        self.needs(home, {("dir", 2): 9}, 0, 0)
        self.lots(home, {}, 1, (), ())
        self.lots(SHAPE.empty_home(), {}, 1, (), ())

    def test_wrong(self):
        home = home_with(SHAPE, {2: (10, "a")}, {0: (10, "a", 0)})
        self.needs(home, {("dir", 2): 7}, 7, 1)
        self.lots(home, {("dir", 2): 7}, 1, (("dir", 2), ("row", 0)), (("dir", 2), ("row", 0)))

    def test_place(self):
        home = home_with(SHAPE, {2: (0, "a"), 3: (0, "b")}, {0: (0, "a", 0), 1: (0, "b", 0), 2: (0, "a", 1), 3: (0, "c", 0)})
        prices = {("dir", 2): 4, ("row", 0): 4, ("row", 2): 3, ("row", 1): 5}
        self.needs(home, prices, 7 + 1)
        self.lots(home, prices, 2, (("dir", 3), ("row", 2)), (("dir", 2), ("dir", 3), ("row", 0), ("row", 2)))
        self.needs(home, {}, 3)
        self.lots(home, {}, 6, (), (("dir", 2), ("dir", 3), ("row", 0), ("row", 1), ("row", 2)))

    def test_free_by_itself(self):
        home = home_with(SHAPE, {}, {0: (2, "a", 0), 1: (2, "a", 0), 2: (2, "b", 0)})
        self.needs(home, {("row", 0): 5, ("row", 1): 3}, 1 + 3)
        self.lots(home, {("row", 0): 5, ("row", 1): 3}, 1, (("dir", 2), ("row", 1)), (("dir", 2), ("row", 1)))

    def test_free_by_all_beneath(self):
        home = home_with(SHAPE, {}, {0: (2, "a", 0), 1: (2, "a", 0), 2: (2, "b", 0)})
        prices = {("dir", 2): 3}
        rows = (("row", 0), ("row", 1), ("row", 2))
        self.needs(home, prices, 3)
        self.lots(home, prices, 1, rows, rows)

    def test_free_both_ways_alike(self):
        home = home_with(SHAPE, {}, {0: (2, "a", 0), 1: (2, "a", 0), 2: (2, "b", 0)})
        prices = {("dir", 2): 2}
        self.needs(home, prices, 3)
        self.lots(home, prices, 3, (), (("dir", 2), ("row", 0), ("row", 1), ("row", 2)))

    def test_free_where_one_unit_is_sure(self):
        # Either 2 and the cheaper row of one name, or both rows: the cheaper one always.
        home = home_with(SHAPE, {}, {0: (2, "a", 0), 1: (2, "a", 0)})
        self.needs(home, {("dir", 2): 4, ("row", 1): 4}, 5)
        self.lots(home, {("dir", 2): 4, ("row", 1): 4}, 2, (("row", 0),), (("dir", 2), ("row", 0), ("row", 1)))

    def test_ring_of_one_alone(self):
        home = home_with(SHAPE, {4: (4, "a")})
        self.needs(home, {("dir", 4): 6}, 6)
        self.lots(home, {("dir", 4): 6}, 1, (("dir", 4),), (("dir", 4),))

    def test_ring_with_tails(self):
        home = home_with(SHAPE, {4: (5, "a"), 5: (4, "a"), 2: (5, "b"), 3: (2, "a")}, {0: (4, "x", 0)})
        self.needs(home, {}, 1, 0)
        self.lots(home, {}, 2, (), (("dir", 4), ("dir", 5)))
        self.lots(home, {("dir", 4): 2}, 1, (("dir", 5),), (("dir", 5),))

    def test_ring_that_a_dearer_double_breaks(self):
        home = home_with(SHAPE, {4: (5, "a"), 5: (4, "a")}, {0: (4, "a", 0)})
        prices = {("dir", 4): 2, ("dir", 5): 3, ("row", 0): 4}
        self.needs(home, prices, 3)
        self.lots(home, prices, 1, (("dir", 5),), (("dir", 5),))

    def test_ring_that_an_equal_double_breaks(self):
        home = home_with(SHAPE, {4: (5, "a"), 5: (4, "a")}, {0: (4, "a", 0), 1: (5, "a", 0)})
        # Of four ways to leave one of each name just that is none in which both of the ring stay.
        self.needs(home, {}, 2)
        self.lots(home, {}, 3, (), (("dir", 4), ("dir", 5), ("row", 0), ("row", 1)))
        self.needs(home, {("dir", 4): 2}, 2)
        self.lots(home, {("dir", 4): 2}, 1, (("dir", 5), ("row", 1)), (("dir", 5), ("row", 1)))

    def test_ring_that_doubles_do_not_break(self):
        home = home_with(SHAPE, {4: (5, "a"), 5: (4, "a")}, {0: (4, "a", 0), 1: (4, "a", 1), 2: (5, "b", 0), 3: (5, "b", 0)})
        prices = {("dir", 4): 5, ("dir", 5): 5, ("row", 0): 3, ("row", 1): 3}
        # The doubles cost 6 and 1; leaving a row in place of directory 5 costs 2 more, directory 4 would 5.
        self.needs(home, prices, 9)
        self.lots(home, prices, 4, (("dir", 5),), (("dir", 5), ("row", 0), ("row", 1), ("row", 2), ("row", 3)))

    def test_what_hangs_beneath_a_wrong_directory(self):
        home = home_with(SHAPE, {4: (10, "a"), 5: (4, "b")}, {0: (4, "b", 0)})
        self.needs(home, {}, 1, 1)
        self.lots(home, {}, 2, (("dir", 4),), (("dir", 4), ("dir", 5), ("row", 0)))


class AgainstAllLotsTest(unittest.TestCase):
    def holds_for(self, shape, home, prices):
        before = dict(home)
        lots, least = least_lots(shape, home, prices)
        self.assertEqual(least_price(shape, home, prices), least)
        self.assertEqual(count_lots(shape, home, prices), len(lots))
        sure = [unit for unit in units(shape) if all(unit in lot for lot in lots)]
        possible = [unit for unit in units(shape) if any(unit in lot for lot in lots)]
        self.assertEqual(sure_units(shape, home, prices), tuple(sure))
        self.assertEqual(possible_units(shape, home, prices), tuple(possible))
        parts = parts_of(shape, home)
        needs = [need_of(shape, home, prices, part) for part in parts]
        self.assertEqual(sum(needs), least)
        for part, need in zip(parts, needs):
            self.assertEqual(need, least_within(shape, home, prices, part))
        self.assertEqual(home, before)
        return {part.kind for part, need in zip(parts, needs) if need}

    def test_drawn_homes(self):
        draw = random.Random(34)
        kinds = set()
        for _ in range(500):
            shape = Shape(draw.randint(2, 6), draw.randint(1, 3), 2, 1, 1)
            kinds |= self.holds_for(shape, drawn_home(draw, shape), drawn_prices(draw, shape))
        self.assertEqual(kinds, {"wrong", "ring", "place", "free"})

    def test_drawn_rings(self):
        draw = random.Random(35)
        for _ in range(250):
            shape = Shape(draw.randint(3, 6), 3, 1, 1, 1)
            ring = list(range(2, shape.dirs))
            home = home_with(
                shape, {j: (draw.choice(ring + [j]), draw.choice("ab")) for j in ring},
                {i: (draw.choice(ring), draw.choice("ab"), 0) for i in range(draw.randint(0, 3))},
            )
            self.holds_for(shape, home, drawn_prices(draw, shape))

    def test_all_homes_of_two_directories_and_a_row(self):
        shape = Shape(4, 1, 1, 1, 1)
        cells = [any_values(shape, unit) for unit in units(shape)]
        homes = list(itertools.product(*cells))
        right = [values for values in homes if is_right(shape, self.home_of(shape, values))]
        for values in homes[::3]:
            unlike = {tuple(unit for unit, one, other in zip(units(shape), values, near) if one != other) for near in right}
            home = self.home_of(shape, values)
            for prices in ({}, {("dir", 2): 3, ("row", 0): 2}):
                least = min(price_of(prices, lot) for lot in unlike)
                lots = [lot for lot in unlike if price_of(prices, lot) == least]
                self.assertEqual(least_price(shape, home, prices), least)
                self.assertEqual(count_lots(shape, home, prices), len(lots))

    def home_of(self, shape, values):
        home = shape.empty_home()
        for unit, value in zip(units(shape), values):
            put_cell(home, unit_place(shape, unit), value)
        return home


class GreatestTest(unittest.TestCase):
    def setUp(self):
        self.shape = Shape(40, 60, 40, 200, 4)

    def lots(self, home, prices, least, many):
        self.assertEqual(least_price(self.shape, home, prices), least)
        self.assertEqual(count_lots(self.shape, home, prices), many)

    def test_one_ring_of_38(self):
        home = home_with(self.shape, {j: (2 if j == 39 else j + 1, "a") for j in range(2, 40)})
        dirs = tuple(("dir", j) for j in range(2, 40))
        self.lots(home, {}, 1, 38)
        self.assertEqual((sure_units(self.shape, home, {}), possible_units(self.shape, home, {})), ((), dirs))
        prices = {unit: 40 - unit[1] // 2 for unit in dirs}
        self.lots(home, prices, 21, 2)
        self.assertEqual(possible_units(self.shape, home, prices), (("dir", 38), ("dir", 39)))

    def test_a_ring_with_a_double_of_each(self):
        dirs = {j: (2 if j == 39 else j + 1, "a") for j in range(2, 40)}
        home = home_with(self.shape, dirs, {i: (i + 2, "a", i) for i in range(38)})
        # One of each two stays: not all directories.
        self.lots(home, {}, 38, 2 ** 38 - 1)
        prices = {("row", i): 2 for i in range(38)}
        self.lots(home, prices, 38, 1)
        prices = {("dir", j): 2 for j in range(2, 40)}
        self.lots(home, prices, 38 + 1, 38)

    def test_rings_with_tails(self):
        dirs = {}
        for first in range(2, 38, 3):
            dirs.update({first: (first + 1, "a"), first + 1: (first, "a"), first + 2: (first, "c")})
        home = home_with(self.shape, dirs, {i: (2 + 3 * (i // 5), "c", 0) for i in range(60)})
        # Twelve rings of two: one of each, and five of the six units by one name.
        self.lots(home, {}, 12 * (1 + 5), (2 * 6) ** 12)

    def test_many_names_alike(self):
        rows = {i: (0, "a" if i < 25 else "b", 0) for i in range(60)}
        home = home_with(self.shape, {j: (0, "b") for j in range(2, 40)}, rows)
        self.lots(home, {}, 24 + 72, 25 * 73)
        prices = {("row", i): 10 ** 30 for i in range(0, 60, 5)}
        self.lots(home, prices, 4 * 10 ** 30 + 20 + 6 * 10 ** 30 + 66, 5 * 7)

    def test_many_free_directories(self):
        home = home_with(self.shape, {}, {i: (2 + i // 2, "a" if i % 2 else "b", 0) for i in range(60)})
        self.lots(home, {}, 30, 1)
        prices = {("dir", j): 2 for j in range(2, 40)}
        self.lots(home, prices, 60, 2 ** 30)


class PricesTest(unittest.TestCase):
    def bad(self, prices, unit):
        home = SHAPE.empty_home()
        put_cell(home, SHAPE.row_cell(0), 10 ** 9)
        calls = (least_price, count_lots, sure_units, possible_units)
        for call in calls:
            with self.assertRaises(BadPrices) as caught:
                call(SHAPE, home, prices)
            self.assertEqual(caught.exception.unit, unit)
        with self.assertRaises(BadPrices) as caught:
            need_of(SHAPE, home, prices, parts_of(SHAPE, home)[0])
        self.assertEqual(caught.exception.unit, unit)

    def test_keys_that_are_no_units(self):
        for key in (("dir", 0), ("dir", 1), ("dir", 10), ("row", 9), ("row", -1), ("row", True), "dir", None, 3, ("dir",)):
            self.bad({("row", 0): 1, key: 1}, key)

    def test_prices_that_are_none(self):
        for price in (0, -1, True, False, None, "1", 1.0, (1,)):
            self.bad({("dir", 2): 3, ("dir", 3): price}, ("dir", 3))
            self.bad({("row", 8): price}, ("row", 8))

    def test_the_first_in_the_dicts_order(self):
        self.bad({("row", 3): 0, ("dir", 0): 1, ("dir", 2): 0}, ("row", 3))
        self.bad({("row", 3): 1, ("dir", 0): 1, ("dir", 2): 0}, ("dir", 0))

    def test_also_where_nothing_needs_a_price(self):
        for call in (least_price, count_lots, sure_units, possible_units):
            with self.assertRaises(BadPrices):
                call(SHAPE, SHAPE.empty_home(), {5: 5})

    def test_a_unit_without_a_price_has_1(self):
        home = home_with(SHAPE, {2: (0, "a"), 3: (0, "a")})
        self.assertEqual(sure_units(SHAPE, home, {("dir", 2): 2}), (("dir", 3),))
        self.assertEqual(sure_units(SHAPE, home, {("dir", 2): 1}), ())


if __name__ == "__main__":
    unittest.main()
