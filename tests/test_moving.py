"""[59]: homes moved to other shapes."""

import random
import unittest

from drawn import Caller
from homes import drawn_right_home, home_with
from systems import path, watched

from plugproof.calls import done
from plugproof.errors import Refused
from plugproof.moving import moved, used_many
from plugproof.names import are_right
from plugproof.plates import is_cells
from plugproof.readings import (
    clock_at, counts_of, dir_at, dirs_of, limit_at, met, named_files, owner_at, row_at, rows_of, size_at, time_at, tree_of,
)
from plugproof.shape import Shape

SHAPE = Shape(8, 9, 7, 20, 3)


def drawn_system_home(draw, shape, many=120):
    """A home that drawn calls made of an empty one."""
    system = watched(shape)
    caller = Caller(draw, shape.users, odd=0)
    for _ in range(many):
        done(system, caller.call(system, tree_of(system.home(), shape)))
    return system.home()


def drawn_level_home(draw, shape):
    """A right home whose files hold any numbers, but no block is met at two levels: each third of them is of one level."""
    home = drawn_right_home(draw, shape)
    home[0] = (draw.randint(-5, 99),) + (7,) * 7
    home[shape.first_user] = tuple(draw.randint(-3, 2 * shape.blocks) for _ in range(8))
    third = shape.blocks // 3

    def pointer(level):
        if draw.random() < 0.4:
            return draw.choice((0, -1, shape.blocks + 1, -10 ** 9, 10 ** 9))
        return 1 + level * third + draw.randrange(third)

    for file in range(shape.files):
        home[shape.file_plate(file)] = (draw.randint(-9, 650), draw.randint(-2, shape.users), draw.randint(-9, 9)) + tuple(
            pointer(level) for level in (0, 0, 0, 1, 2))
    for block in range(shape.blocks):
        level = block // third
        home[shape.block_plate(block)] = tuple(pointer(level - 1) if 0 < level < 3 else draw.randint(-9, 99) for _ in range(8))
    return home


def just_enough(home, shape):
    dirs, rows, files, blocks = used_many(home, shape)
    return Shape(2 + dirs, max(1, rows), max(1, files), max(1, blocks), shape.users)


class MovingCase(unittest.TestCase):
    def refused(self, word, home, shape, late):
        before = dict(home)
        with self.assertRaises(Refused) as caught:
            moved(home, shape, late)
        self.assertEqual(caught.exception.word, word)
        self.assertEqual(home, before)

    def holds(self, home, shape, late):
        """The moved home, with all that is told of it."""
        before = dict(home)
        told = moved(home, shape, late)
        self.assertEqual(home, before)
        self.assertEqual(sorted(told), list(range(late.plates)))
        self.assertTrue(all(is_cells(cells) for cells in told.values()))
        self.assertEqual(tree_of(told, late), tree_of(home, shape))
        self.assertTrue(are_right(told, late))
        self.assertEqual(clock_at(told, late), clock_at(home, shape))
        self.assertEqual(used_many(told, late), used_many(home, shape))
        self.limits(home, shape, told, late)
        self.cells(home, shape, told, late)
        self.files(home, shape, told, late)
        return told

    def limits(self, home, shape, told, late):
        for user in range(late.users):
            limit = min(limit_at(home, shape, user), late.blocks) if user < shape.users else late.blocks
            self.assertEqual(limit_at(told, late, user), limit)
        self.assertEqual(told[late.first_user][late.users:], (0,) * (8 - late.users))
        self.assertEqual(told[0][1:], (0,) * 7)

    def cells(self, home, shape, told, late):
        """Directories and rows, in their order, without gaps."""
        dirs = [0, 1] + [number for number, _ in dirs_of(home, shape)]
        for at, number in list(enumerate(dirs))[2:]:
            up, name = dir_at(home, shape, number)
            self.assertEqual(dir_at(told, late, at), (dirs.index(up), name))
        files = named_files(home, shape)
        for at, (_, (up, name, file)) in enumerate(rows_of(home, shape)):
            self.assertEqual(row_at(told, late, at), (dirs.index(up), name, files.index(file)))
        cells = [told[plate] for plate in range(1, late.first_user)]
        used = len(dirs) - 2 + len(rows_of(home, shape))
        self.assertEqual(len([number for plate in cells for number in plate if number != 0]), used)

    def files(self, home, shape, told, late):
        files = named_files(home, shape)
        blocks = sorted({block for file in files for block in met(home, shape, file)})
        for at, file in enumerate(files):
            plate = told[late.file_plate(at)]
            self.assertEqual(plate[:3], (size_at(home, shape, file), owner_at(home, shape, file), time_at(home, shape, file)))
            self.assertTrue(all(0 <= pointer <= len(blocks) for pointer in plate[3:]))
            self.assertEqual(met(told, late, at), [blocks.index(block) for block in met(home, shape, file)])
        for file in range(len(files), late.files):
            self.assertEqual(told[late.file_plate(file)], (0,) * 8)
        counts = counts_of(home, shape, files)
        self.assertEqual(counts_of(told, late, range(len(files))), [counts[block] for block in blocks] + [0] * (late.blocks - len(blocks)))
        for block in range(len(blocks), late.blocks):
            self.assertEqual(told[late.block_plate(block)], (0,) * 8)
        levels = {block: level for file in files for block, level in self.levels(home, shape, file)}
        for at, block in enumerate(blocks):
            cells = home[shape.block_plate(block)]
            if levels[block] > 0:
                cells = tuple(blocks.index(number - 1) + 1 if 1 <= number <= shape.blocks else 0 for number in cells)
            self.assertEqual(told[late.block_plate(at)], cells)

    def levels(self, home, shape, file):
        found = []
        left = list(zip(home[shape.file_plate(file)][3:], (0, 0, 0, 1, 2)))
        while left:
            pointer, level = left.pop()
            if 1 <= pointer <= shape.blocks:
                found.append((pointer - 1, level))
                if level:
                    left += [(below, level - 1) for below in home[shape.block_plate(pointer - 1)]]
        return found


class UsedManyTest(MovingCase):
    def test_what_is_used(self):
        self.assertEqual(used_many(SHAPE.empty_home(), SHAPE), (0, 0, 0, 0))
        home = home_with(
            SHAPE, {3: (0, "a"), 5: (3, "b")}, {0: (0, "c", 6), 4: (5, "d", 6), 8: (1, "e", 2)},
            files={6: (0, 0, 0, 4, 4, 0, 9, 0), 2: (0, 0, 0, 4, 5, 99, 0, 0), 0: (9, 0, 0, 11, 12, 0, 0, 0)},
            blocks={8: (1, 1, 2, 0, 0, -4, 0, 0), 0: (9, 9, 9, 9, 9, 9, 9, 9)},
        )
        self.assertEqual(used_many(home, SHAPE), (2, 3, 2, 5))

    def test_a_block_met_at_two_levels_is_one(self):
        home = home_with(SHAPE, {}, {0: (0, "a", 0)}, files={0: (0, 0, 0, 1, 0, 0, 1, 1)}, blocks={0: (1, 1, 0, 0, 0, 0, 0, 0)})
        self.assertEqual(used_many(home, SHAPE), (0, 1, 1, 1))


class MovedTest(MovingCase):
    def test_by_hand(self):
        home = home_with(
            SHAPE, {3: (0, "a"), 6: (3, "b"), 4: (6, "c")}, {2: (4, "d", 5), 7: (1, "e", 5), 8: (0, "f", 3)},
            files={5: (700, 9, 8, 7, 0, -3, 20, 0), 3: (-2, 2, 9, 99, 7, 0, 0, 0)},
            blocks={6: (1, 2, 3, 4, 5, 6, 7, 8), 19: (4, 0, 99, -1, 7, 4, 0, 0), 3: (0, 99, 0, 0, 0, 0, 0, 1)},
        )
        home[0] = (44, 5, 5, 5, 5, 5, 5, 5)
        home[SHAPE.first_user] = (3, 15, 20, 0, 0, 0, 0, 1)
        late = Shape(5, 3, 2, 10, 4)
        told = self.holds(home, SHAPE, late)
        expected = home_with(
            late, {2: (0, "a"), 3: (4, "c"), 4: (2, "b")}, {0: (3, "d", 1), 1: (1, "e", 1), 2: (0, "f", 0)},
            files={1: (600, 0, 8, 2, 0, 0, 3, 0), 0: (0, 2, 9, 0, 2, 0, 0, 0)},
            blocks={1: (1, 2, 3, 4, 5, 6, 7, 8), 2: (1, 0, 0, 0, 2, 1, 0, 0), 0: (0, 99, 0, 0, 0, 0, 0, 1)},
        )
        expected[0] = (44, 0, 0, 0, 0, 0, 0, 0)
        expected[late.first_user] = (3, 10, 10, 10, 0, 0, 0, 0)
        self.assertEqual(told, expected)

    def test_an_empty_home(self):
        for late in (SHAPE, Shape(2, 1, 1, 1, 1), Shape(40, 60, 40, 200, 4)):
            told = self.holds(SHAPE.empty_home(), SHAPE, late)
            limits = tuple(min(20, late.blocks) if user < 3 else late.blocks for user in range(late.users))
            self.assertEqual(told, {**late.empty_home(), late.first_user: limits + (0,) * (8 - late.users)})

    def test_homes_that_calls_made(self):
        used = 0
        for seed in range(25):
            draw = random.Random(seed)
            shape = Shape(*draw.choice(((8, 9, 7, 40, 2), (6, 12, 10, 90, 3), (4, 6, 5, 20, 2))))
            home = drawn_system_home(draw, shape)
            just = just_enough(home, shape)
            greater = Shape(40, 60, 40, 200, 4)
            small = self.holds(home, shape, just)
            great = self.holds(home, shape, greater)
            # Moved twice is moved once, but for limits; and there and back it is the small one.
            self.assertEqual(self.holds(great, greater, just), self.holds(small, just, just))
            self.assertEqual(self.but_limits(self.holds(small, just, greater), greater), self.but_limits(great, greater))
            used += len(named_files(home, shape))
        self.assertGreater(used, 60)

    def test_homes_with_any_numbers(self):
        for seed in range(60):
            draw = random.Random(100 + seed)
            shape = Shape(8, 9, 6, draw.choice((9, 30)), 3)
            home = drawn_level_home(draw, shape)
            just = just_enough(home, shape)
            small = self.holds(home, shape, just)
            greater = Shape(20, 30, 20, 60, 4)
            great = self.holds(home, shape, greater)
            self.assertEqual(self.but_limits(self.holds(great, greater, just), just), self.but_limits(small, just))
            self.assertEqual(self.holds(small, just, just), small)

    def but_limits(self, home, shape):
        return {plate: cells for plate, cells in home.items() if plate != shape.first_user}

    def test_systems_go_on_over_a_moved_home(self):
        draw = random.Random(59)
        shape, late = Shape(8, 9, 7, 40, 2), Shape(10, 12, 9, 60, 2)
        systems = [watched(shape, home=drawn_system_home(draw, shape))]
        home = systems[0].home()
        systems.append(watched(late, home=moved(home, shape, late)))
        caller = Caller(draw, 2, odd=0)
        same = 0
        for _ in range(150):
            call = caller.call(systems[0], tree_of(systems[0].home(), shape))
            answers = [done(system, call) for system in systems]
            if answers[0] != answers[1]:
                self.assertIn(answers[0], (("no", "full"), ("no", "quota")))
                break
            same += 1
            self.assertEqual(tree_of(systems[1].home(), late), tree_of(systems[0].home(), shape))
        self.assertGreater(same, 5)

    def test_blocks_met_twice_stay_shared(self):
        home = home_with(SHAPE, {}, {0: (0, "a", 0), 1: (0, "b", 1)}, files={0: (9, 0, 0, 8, 8, 8, 9, 0), 1: (9, 0, 0, 0, 8, 0, 9, 12)},
                         blocks={7: (5,) * 8, 8: (8, 8, 0, 0, 0, 0, 0, 8), 11: (9, 9, 0, 0, 0, 0, 0, 0)})
        late = Shape(2, 2, 2, 3, 1)
        told = self.holds(home, SHAPE, late)
        self.assertEqual([told[late.block_plate(block)] for block in range(3)], [
            (5,) * 8, (1, 1, 0, 0, 0, 0, 0, 1), (2, 2, 0, 0, 0, 0, 0, 0),
        ])

    def test_a_new_home_each_time(self):
        home = SHAPE.empty_home()
        told = moved(home, SHAPE, SHAPE)
        self.assertEqual(told, home)
        self.assertIsNot(told, home)

    def test_the_late_shape_is_handed_in_by_place_or_by_name(self):
        home, late = SHAPE.empty_home(), Shape(3, 1, 1, 5, 1)
        self.assertEqual(moved(home, SHAPE, late), moved(late=late, shape=SHAPE, home=home))
        self.assertEqual((late.told(), SHAPE.told()), ((3, 1, 1, 5, 1), (8, 9, 7, 20, 3)))


class RefusalsTest(MovingCase):
    def test_full_exactly_if_there_is_too_little_room(self):
        for seed in range(15):
            draw = random.Random(seed)
            shape = Shape(8, 9, 7, 40, 2)
            home = drawn_system_home(draw, shape, 80)
            just = just_enough(home, shape)
            self.holds(home, shape, just)
            used = used_many(home, shape)
            for at, least in ((0, 2), (1, 1), (2, 1), (3, 1)):
                numbers = list(just.told())
                if used[at] == 0 or numbers[at] == least:
                    continue
                numbers[at] -= 1
                self.refused("full", home, shape, Shape(*numbers))

    def test_users(self):
        home = home_with(SHAPE, {}, {0: (0, "a", 4)}, files={4: (0, 1, 0, 0, 0, 0, 0, 0), 2: (0, 2, 0, 0, 0, 0, 0, 0)})
        self.refused("users", home, SHAPE, Shape(2, 1, 1, 1, 1))
        self.holds(home, SHAPE, Shape(2, 1, 1, 1, 2))
        # What is no user of the first shape is read as 0.
        home[SHAPE.file_plate(4)] = (0, 3, 0, 0, 0, 0, 0, 0)
        self.holds(home, SHAPE, Shape(2, 1, 1, 1, 1))

    def test_levels(self):
        for plate, blocks in (
            ((0, 0, 0, 1, 0, 0, 1, 0), {}), ((0, 0, 0, 1, 0, 0, 0, 1), {}), ((0, 0, 0, 0, 0, 0, 1, 1), {}),
            ((0, 0, 0, 0, 0, 0, 1, 0), {0: (0, 0, 1, 0, 0, 0, 0, 0)}), ((0, 0, 0, 0, 0, 0, 0, 1), {0: (0, 0, 1, 0, 0, 0, 0, 0)}),
            ((0, 0, 0, 0, 0, 0, 0, 1), {0: (2, 0, 0, 0, 0, 0, 0, 0), 1: (0, 0, 0, 0, 0, 0, 0, 1)}),
            ((0, 0, 0, 0, 0, 0, 2, 1), {0: (0, 0, 0, 3, 0, 0, 0, 0), 1: (0, 0, 3, 0, 0, 0, 0, 0)}),
        ):
            home = home_with(SHAPE, {}, {0: (0, "a", 0)}, files={0: plate}, blocks=blocks)
            self.refused("levels", home, SHAPE, SHAPE)
            # A file that is not named can meet them so.
            self.holds(home_with(SHAPE, {}, {0: (0, "a", 1)}, files={0: plate}, blocks=blocks), SHAPE, SHAPE)

    def test_two_files_at_two_levels(self):
        home = home_with(SHAPE, {}, {0: (0, "a", 0), 1: (0, "b", 1)}, files={0: (0, 0, 0, 5, 0, 0, 0, 0), 1: (0, 0, 0, 0, 0, 0, 5, 0)})
        self.refused("levels", home, SHAPE, SHAPE)

    def test_which_comes_first(self):
        def home_of(levels, owner):
            return home_with(SHAPE, {4: (0, "d")}, {0: (0, "a", 0), 1: (0, "b", 0)}, files={0: (0, owner, 0, 1, 2, 0, 1 if levels else 0, 0)})

        enough = (3, 2, 1, 2)
        for levels in (True, False):
            for owner in (1, 0):
                for at in (None, 0, 1, 3):
                    numbers = [number - (place == at) for place, number in enumerate(enough)]
                    word = "levels" if levels else "users" if owner else None if at is None else "full"
                    late = Shape(*numbers, 1)
                    if word is None:
                        self.holds(home_of(levels, owner), SHAPE, late)
                    else:
                        self.refused(word, home_of(levels, owner), SHAPE, late)


if __name__ == "__main__":
    unittest.main()
