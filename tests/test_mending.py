"""[33], [32], [37]: the least mending, prices between homes, spoilt cells."""

import itertools
import random
import unittest

from homes import (
    dir_value, drawn_home, drawn_prices, drawn_right_home, home_with, lots_of, moved, price_of, put_cell, row_value,
    unit_place, units, value_of,
)

from plugproof.disk import disk_after
from plugproof.falls import fallen_disk
from plugproof.mending import mended, moved_to_found, price_between
from plugproof.parts import least_price
from plugproof.places import is_right
from plugproof.readings import named_files, row_at
from plugproof.shape import NAMES, Shape, number_of
from plugproof.store import fresh_store, open_store
from plugproof.storeerrors import BadPrices

SHAPE = Shape(10, 11, 3, 2, 2)


def unlike_units(shape, home, other):
    return tuple(unit for unit in units(shape) if value_of(shape, home, unit) != value_of(shape, other, unit))


class PriceBetweenTest(unittest.TestCase):
    def test_there_and_back(self):
        home = home_with(SHAPE, {2: (0, "a"), 9: (1, "b")}, {0: (0, "x", 0), 10: (0, "y", 2)})
        other = home_with(SHAPE, {2: (0, "b"), 3: (1, "b"), 9: (1, "b")}, {0: (0, "x", 1), 10: (0, "y", 2)})
        prices = {("dir", 2): 5, ("row", 0): 7, ("dir", 9): 100, ("row", 10): 100}
        self.assertEqual(price_between(SHAPE, home, other, prices), 5 + 1 + 7)
        self.assertEqual(price_between(SHAPE, other, home, prices), 5 + 1 + 7)
        self.assertEqual(price_between(SHAPE, home, other, {}), 3)
        self.assertEqual(price_between(SHAPE, home, dict(home), prices), 0)

    def test_only_cells_of_units_count(self):
        home = SHAPE.empty_home()
        other = {plate: (9,) * 8 for plate in home}
        for number in range(2, 10):
            put_cell(other, SHAPE.dir_cell(number), 0)
        for number in range(11):
            put_cell(other, SHAPE.row_cell(number), 0)
        self.assertEqual(price_between(SHAPE, home, other, {}), 0)

    def test_another_number_is_a_change_though_it_says_the_same(self):
        other = SHAPE.empty_home()
        put_cell(other, SHAPE.dir_cell(4), -1)
        self.assertEqual(price_between(SHAPE, SHAPE.empty_home(), other, {("dir", 4): 3}), 3)

    def test_drawn_homes(self):
        draw = random.Random(32)
        for _ in range(200):
            one, other, prices = drawn_home(draw, SHAPE), drawn_home(draw, SHAPE), drawn_prices(draw, SHAPE)
            expected = price_of(prices, unlike_units(SHAPE, one, other))
            self.assertEqual(price_between(SHAPE, one, other, prices), expected)
            self.assertEqual(price_between(SHAPE, other, one, prices), expected)
            self.assertEqual(price_between(SHAPE, one, one, prices), 0)

    def test_prices_that_are_none(self):
        home = SHAPE.empty_home()
        for prices, unit in (
            ({("dir", 1): 1}, ("dir", 1)), ({("row", 0): 3, ("row", 11): 1, 5: 1}, ("row", 11)),
            ({("dir", 2): 0}, ("dir", 2)), ({("dir", 2): -3}, ("dir", 2)), ({("dir", 2): True}, ("dir", 2)),
            ({("row", 2): "1", ("dir", 2): 0}, ("row", 2)),
        ):
            for call in (lambda: price_between(SHAPE, home, home, prices), lambda: mended(SHAPE, home, prices)):
                with self.assertRaises(BadPrices) as caught:
                    call()
                self.assertEqual(caught.exception.unit, unit)


class MendedTest(unittest.TestCase):
    def holds_for(self, shape, home, prices):
        before = dict(home)
        result = mended(shape, home, prices)
        self.assertEqual(home, before)
        self.assertIsNot(result.plates, home)
        self.assertTrue(is_right(shape, result.plates))
        self.assertEqual(result.units, unlike_units(shape, home, result.plates))
        self.assertEqual(result.price, price_of(prices, result.units))
        self.assertEqual(result.price, price_between(shape, home, result.plates, prices))
        self.assertEqual(result.price, least_price(shape, home, prices))
        self.assertEqual(list(result.plates), list(home))
        self.moved_as_told(shape, home, result)
        again = mended(shape, result.plates, prices)
        self.assertEqual((again.price, again.units, again.plates), (0, (), result.plates))
        if is_right(shape, home):
            self.assertEqual((result.price, result.plates), (0, home))
        return result

    def moved_as_told(self, shape, home, result):
        expected = dict(home)
        for unit in result.units:
            put_cell(expected, unit_place(shape, unit), self.in_found(shape, home, unit))
        self.assertEqual(result.plates, expected)
        self.assertEqual(named_files(result.plates, shape), named_files(home, shape))

    def in_found(self, shape, home, unit):
        value = value_of(shape, home, unit)
        if unit[0] == "dir":
            return 1 + NAMES + ((value - 1) % NAMES if value > 0 else 0)
        return 1 + (NAMES + (value - 1) // shape.files % NAMES) * shape.files + (value - 1) % shape.files

    def test_each_kind_of_change(self):
        home = home_with(
            SHAPE, {2: (3, "k"), 3: (2, "l"), 4: (7, "b"), 6: (7, "c"), 8: (99, "aa")},
            {0: (0, "c", 0), 1: (0, "c", 2), 3: (8, "d", 0), 10: (12, "zz", 2)},
        )
        prices = {("dir", 2): 3, ("row", 1): 2}
        result = self.holds_for(SHAPE, home, prices)
        self.assertEqual(result.units, (("dir", 3), ("dir", 7), ("dir", 8), ("row", 0), ("row", 10)))
        self.assertEqual(result.price, 5)
        expected = home_with(
            SHAPE, {2: (3, "k"), 3: (1, "l"), 4: (7, "b"), 6: (7, "c"), 7: (1, "a"), 8: (1, "aa")},
            {0: (1, "c", 0), 1: (0, "c", 2), 3: (8, "d", 0), 10: (1, "zz", 2)},
        )
        self.assertEqual(result.plates, expected)

    def test_several_of_one_name_come_to_found(self):
        home = home_with(SHAPE, {2: (1, "b")}, {0: (0, "b", 0), 1: (0, "b", 1), 2: (0, "b", 2), 3: (1, "b", 0)})
        result = self.holds_for(SHAPE, home, {("row", 1): 2})
        self.assertEqual(result.units, (("row", 0), ("row", 2)))
        self.assertEqual([row_at(result.plates, SHAPE, row) for row in (0, 1, 2)], [(1, 1, 0), (0, 1, 1), (1, 1, 2)])

    def test_a_free_directory_with_a_number_below_0(self):
        home = home_with(SHAPE, {2: (9, "b"), 3: (9, "c")})
        put_cell(home, SHAPE.dir_cell(9), -44)
        result = self.holds_for(SHAPE, home, {})
        self.assertEqual(result.units, (("dir", 9),))
        self.assertEqual(result.plates[2], (0, 1 + NAMES + number_of("a")) + (0,) * 6)

    def test_free_units_that_are_moved(self):
        home = home_with(SHAPE, {2: (0, "b")})
        put_cell(home, SHAPE.row_cell(10), -44)
        late = moved_to_found(SHAPE, home, [("row", 10), ("dir", 9), ("dir", 2)])
        self.assertEqual(late, home_with(SHAPE, {2: (1, "b"), 9: (1, "a")}, {10: (1, "a", 0)}))

    def test_a_right_home_is_left_alone(self):
        home = home_with(SHAPE, {2: (0, "a"), 3: (1, "a")}, {0: (1, "a", 1)}, {0: (-3,) * 8}, {1: (77,) * 8})
        result = self.holds_for(SHAPE, home, {("dir", 2): 5})
        self.assertEqual((result.price, result.units, result.plates), (0, (), home))

    def test_plates_without_units_stay(self):
        draw = random.Random(331)
        for _ in range(60):
            home = drawn_home(draw, SHAPE)
            for plate in [0] + list(range(SHAPE.first_user, SHAPE.plates)):
                home[plate] = tuple(draw.randint(-9, 9) for _ in range(8))
            home[1] = (draw.randint(-5, 10 ** 8), draw.randint(-5, 10 ** 8)) + home[1][2:]
            result = self.holds_for(SHAPE, home, drawn_prices(draw, SHAPE))
            for plate in [0] + list(range(SHAPE.first_user, SHAPE.plates)):
                self.assertEqual(result.plates[plate], home[plate])
            self.assertEqual(result.plates[1][:2], home[1][:2])

    def test_drawn_homes_against_all_lots(self):
        draw = random.Random(33)
        for _ in range(250):
            shape = Shape(draw.randint(2, 6), draw.randint(1, 3), 2, 1, 1)
            home, prices = drawn_home(draw, shape), drawn_prices(draw, shape)
            price = self.holds_for(shape, home, prices).price
            for lot in lots_of(units(shape)):
                if price_of(prices, lot) < price:
                    self.assertFalse(is_right(shape, moved(shape, home, lot)))

    def test_no_right_home_that_is_drawn_is_nearer(self):
        draw = random.Random(330)
        for _ in range(300):
            shape = Shape(draw.randint(2, 8), draw.randint(1, 5), 2, 1, 1)
            home, prices = drawn_home(draw, shape), drawn_prices(draw, shape)
            price = mended(shape, home, prices).price
            for _ in range(10):
                other = drawn_right_home(draw, shape)
                self.assertGreaterEqual(price_between(shape, home, other, prices), price)

    def test_no_right_home_of_all_is_nearer(self):
        shape = Shape(4, 1, 1, 1, 1)
        places = [(up, name) for up in range(5) for name in "ab"]
        cells = [[0] + [dir_value(up, name) for up, name in places]] * 2
        cells.append([0] + [row_value(shape, up, name, 0) for up, name in places])
        homes = []
        for values in itertools.product(*cells):
            home = shape.empty_home()
            for unit, value in zip(units(shape), values):
                put_cell(home, unit_place(shape, unit), value)
            homes.append((values, home))
        right = [values for values, home in homes if is_right(shape, home)]
        prices = {("dir", 3): 2, ("row", 0): 3}
        for values, home in homes:
            result = self.holds_for(shape, home, prices)
            near = min(sum(price for one, other, price in zip(values, told, (1, 2, 3)) if one != other) for told in right)
            self.assertLessEqual(result.price, near)

    def test_the_greatest_shape(self):
        shape = Shape(40, 60, 40, 200, 4)
        dirs = {j: (2 if j == 39 else j + 1, "a") for j in range(2, 40)}
        home = home_with(shape, dirs, {i: (2, "a", i % 40) for i in range(60)})
        self.assertEqual(self.holds_for(shape, home, {}).price, 60)
        prices = {("row", i): 2 for i in range(60)}
        result = self.holds_for(shape, home, prices)
        self.assertEqual((result.price, len(result.units), result.units[0]), (1 + 2 * 59, 60, ("dir", 39)))
        draw = random.Random(38)
        for _ in range(10):
            self.holds_for(shape, drawn_home(draw, shape), drawn_prices(draw, shape))


class SpoiltTest(unittest.TestCase):
    def test_spoilt_cells(self):
        draw = random.Random(37)
        for _ in range(500):
            shape = Shape(draw.randint(2, 9), draw.randint(1, 6), 2, 1, 1)
            home = drawn_right_home(draw, shape)
            spoilt = draw.randint(0, 5)
            for unit in draw.sample(units(shape), min(spoilt, len(units(shape)))):
                up, name = draw.randrange(shape.dirs + 1), draw.choice("ab")
                value = dir_value(up, name) if unit[0] == "dir" else row_value(shape, up, name, 0)
                put_cell(home, unit_place(shape, unit), draw.choice((value, value, 0, -5, draw.randint(0, 10 ** 9))))
            self.assertLessEqual(least_price(shape, home, {}), spoilt)
            self.assertLessEqual(mended(shape, home, {}).price, spoilt)

    def test_behind_every_fall_nothing_is_to_be_mended(self):
        draw = random.Random(371)
        unlike = 0
        for _ in range(60):
            shape = Shape(draw.randint(2, 9), draw.randint(1, 9), 2, 1, 1)
            store = fresh_store(shape.plates, 6, shape.empty_home())
            for _ in range(8):
                home, now = drawn_right_home(draw, shape), store.home()
                store.put({plate: home[plate] for plate in home if home[plate] != now[plate]})
                draw.choice((store.push, store.push, store.sync, store.lay))()
            moment = draw.randint(0, len(store.trace))
            loose = [plate for plate, _ in disk_after(store.begin, store.trace, moment).loose]
            unlike += len(loose) > 0
            choice = {plate: draw.choice((-1, 0, 1)) for plate in loose}
            home = open_store(fallen_disk(store, moment, choice), shape.plates, 6).home()
            self.assertEqual(mended(shape, home, {}).price, 0)
        self.assertGreater(unlike, 20)


if __name__ == "__main__":
    unittest.main()
