"""[46]: files that share blocks, beside plain rows of numbers."""

import random
import unittest

from homes import drawn_files, home_with

from plugproof.counted import free_blocks, is_free
from plugproof.drafts import Draft
from plugproof.errors import Refused
from plugproof.files import cut, drop_file, empty_file, grow, own_data, put_time, share_file, write
from plugproof.readings import (
    content_of, counts_of, data_block, met, numbers_at, owner_at, pointers_at, size_at, spot_of, time_at,
)
from plugproof.shape import Shape

PLACES = (0, 7, 8, 23, 24, 31, 87, 88, 599)


def plain_write(row, start, numbers):
    row = tuple(row) + (0,) * (start - len(row))
    return row[:start] + tuple(numbers) + row[start + len(numbers):]


def plain_cut(row, size):
    return (tuple(row) + (0,) * size)[:size]


class Disk:
    """Files beside plain rows of numbers; each step is a draft of its own, thrown away if it is refused."""

    def __init__(self, test, shape, home=None, counted=(), pins=()):
        self.test = test
        self.shape = shape
        self.home = home or shape.empty_home()
        self.counts = counts_of(self.home, shape, counted)
        self.rows = {file: content_of(self.home, shape, file) for file in counted}
        self.pins = {block: True for block in pins}
        self.pinned = {block: self.home[shape.block_plate(block)] for block in pins}

    def step(self, call, *arguments):
        """The draft behind a step, None if it was refused by full."""
        draft = Draft(self.shape, self.home, self.counts, self.pins)
        try:
            self.answer = call(draft, *arguments)
        except Refused as refused:
            self.test.assertEqual(refused.word, "full")
            return None
        self.test.assertEqual(draft.home, {**self.home, **draft.changes})
        self.test.assertTrue(all(len(plate) == 8 for plate in draft.changes.values()))
        self.home, self.counts = draft.home, draft.counts
        return draft

    def holds(self):
        """Whether counts, contents and pinned blocks are as they must be."""
        self.test.assertEqual(self.counts, counts_of(self.home, self.shape, list(self.rows)))
        for file, row in self.rows.items():
            self.test.assertEqual(content_of(self.home, self.shape, file), row)
        for block, plate in self.pinned.items():
            self.test.assertEqual(self.home[self.shape.block_plate(block)], plate)

    def free(self):
        return self.counts.count(0) - len([block for block in self.pins if self.counts[block] == 0])

    def write(self, file, start, numbers):
        draft = self.step(write, file, start, numbers)
        if draft:
            self.rows[file] = plain_write(self.rows[file], start, numbers)
            self.test.assertLessEqual(len(draft.changes) + 1, len(numbers) // 8 + 17)
        self.holds()
        return draft

    def cut(self, file, size, call=cut):
        draft = self.step(call, file, size)
        if draft:
            self.rows[file] = plain_cut(self.rows[file], size)
            self.test.assertLessEqual(len(draft.changes) + 1, 9)
        self.holds()
        return draft

    def grow(self, file, size):
        return self.cut(file, size, grow)

    def own(self, file, part):
        draft = self.step(own_data, file, part)
        self.holds()
        if draft:
            self.test.assertEqual(self.answer, data_block(self.home, self.shape, file, part))
            self.test.assertEqual((self.counts[self.answer], self.answer in self.pins), (1, False))
            for plate in draft.changes:
                if plate >= self.shape.first_block:
                    block = plate - self.shape.first_block
                    self.test.assertEqual((self.counts[block], block in self.pins), (1, False))
        return draft

    def share(self, file, late, owner=0, time=0):
        draft = self.step(share_file, file, late, owner, time)
        self.rows[late] = self.rows[file]
        self.test.assertEqual(list(draft.changes), [self.shape.file_plate(late)])
        self.holds()

    def empty(self, file, owner=0, time=0):
        draft = self.step(empty_file, file, owner, time)
        self.rows[file] = ()
        self.test.assertEqual(draft.changes, {self.shape.file_plate(file): (0, owner, time, 0, 0, 0, 0, 0)})
        self.holds()

    def drop(self, file):
        draft = self.step(drop_file, file)
        del self.rows[file]
        self.test.assertEqual(draft.changes, {self.shape.file_plate(file): (0,) * 8})
        self.holds()


class CleanTest(unittest.TestCase):
    """Files of an empty home."""

    def setUp(self):
        self.disk = Disk(self, Shape(2, 1, 4, 100, 2), counted=(0, 1))

    def many(self, free):
        self.assertEqual(self.disk.free(), free)

    def test_a_number_at_each_place(self):
        for place, taken in zip(PLACES, (1, 1, 1, 1, 2, 2, 2, 3, 3)):
            self.disk.write(0, place, (5,))
            self.many(100 - taken)
            self.disk.cut(0, 0)
            self.many(100)

    def test_places_behind_the_size(self):
        for place in PLACES:
            self.disk.write(0, place, (place,))
        self.assertEqual(len(self.disk.rows[0]), 600)
        self.disk.write(0, 0, range(600))
        self.many(100 - 85)
        self.disk.write(0, 3, (7,) * 90)
        self.many(100 - 85)

    def test_the_least_blocks_are_taken_on_the_way(self):
        self.disk.own(0, 74)
        self.assertEqual(self.disk.home[self.disk.shape.file_plate(0)], (0, 0, 0, 0, 0, 0, 0, 1))
        blocks = [self.disk.home[self.disk.shape.block_plate(block)] for block in range(3)]
        self.assertEqual(blocks, [(0,) * 7 + (2,), (0,) * 7 + (3,), (0,) * 8])
        self.assertEqual(self.disk.answer, 2)
        self.disk.own(0, 10)
        self.assertEqual(self.disk.home[self.disk.shape.file_plate(0)], (0, 0, 0, 0, 0, 0, 4, 1))
        self.disk.own(0, 1)
        self.assertEqual(self.disk.home[self.disk.shape.file_plate(0)], (0, 0, 0, 0, 6, 0, 4, 1))
        self.assertEqual(self.disk.own(0, 74).changes, {})

    def test_parts_are_taken_in_their_order(self):
        self.disk.write(0, 0, range(32))
        self.assertEqual([data_block(self.disk.home, self.disk.shape, 0, part) for part in range(4)], [0, 1, 2, 4])

    def test_only_what_changes_is_changed(self):
        self.disk.write(0, 0, range(100))
        draft = self.disk.write(0, 90, (3,))
        plates = [self.disk.shape.block_plate(data_block(self.disk.home, self.disk.shape, 0, 11)), self.disk.shape.file_plate(0)]
        self.assertEqual(sorted(draft.changes), sorted(plates))
        self.assertEqual(list(self.disk.cut(0, 97).changes), [self.disk.shape.file_plate(0)])

    def test_too_long(self):
        disk = self.disk
        disk.write(0, 0, (1,) * 20)
        for call, arguments in (
            (write, (0, 600, (1,))), (write, (0, 599, (1, 2))), (write, (0, 0, (1,) * 601)), (write, (0, 7000, (1,))),
            (cut, (0, 601)), (cut, (0, 10 ** 9)),
        ):
            draft = Draft(disk.shape, disk.home, disk.counts, {})
            with self.assertRaises(Refused) as caught:
                call(draft, *arguments)
            self.assertEqual((caught.exception.word, draft.changes), ("long", {}))
        disk.cut(0, 600)
        disk.write(0, 599, (1,))
        disk.write(0, 0, (2,) * 600)
        disk.cut(0, 600)

    def test_growing_beyond_the_greatest_size(self):
        self.disk.write(0, 0, (1,) * 20)
        self.disk.step(grow, 0, 640)
        self.assertEqual(content_of(self.disk.home, self.disk.shape, 0), (1,) * 20 + (0,) * 580)
        self.disk.step(grow, 0, 640)
        self.assertEqual(size_at(self.disk.home, self.disk.shape, 0), 600)

    def test_growing_to_no_more(self):
        self.disk.write(0, 0, range(1, 20))
        for size in (19, 5, 0):
            draft = self.disk.step(grow, 0, size)
            self.assertEqual(content_of(draft.home, draft.shape, 0), tuple(range(1, 20)))

    def test_cuts_give_back_just_what_is_behind(self):
        def blocks(size):
            parts = -(-size // 8)
            return parts + (parts > 3) + (parts > 11) + max(0, -(-(parts - 11) // 8))

        sizes = (600, 599, 593, 592, 591, 155, 153, 152, 151, 145, 144, 96, 95, 89, 88, 87, 81, 80, 33, 32, 31, 25, 24, 23,
                 17, 16, 9, 8, 7, 1, 0)
        for size in sizes:
            self.disk.write(0, 0, range(1, 601))
            self.many(100 - 85)
            self.disk.cut(0, size)
            self.many(100 - blocks(size))
        for size in sizes:
            self.disk.write(0, 0, range(1, 601))
            for late in [late for late in sizes if late <= size]:
                self.disk.cut(0, late)
                self.many(100 - blocks(late))

    def test_what_comes_behind_a_cut_is_0(self):
        for size in (0, 1, 7, 8, 9, 23, 24, 25, 31, 32, 33, 87, 88, 89, 95, 96, 97, 152, 153, 599):
            for late in (size + 1, size + 8, 600):
                self.disk.write(0, 0, range(1, 601))
                self.disk.cut(0, size)
                (self.disk.grow if late % 2 else self.disk.cut)(0, min(late, 600))
                self.disk.write(0, 0, range(1, 601))
                self.disk.cut(0, size)
                self.disk.write(0, min(late, 599), (7,))

    def test_a_write_right_behind_a_cut(self):
        self.disk.write(0, 0, range(1, 101))
        self.disk.cut(0, 3)
        self.disk.write(0, 3, (50,))
        self.disk.cut(0, 20)

    def test_sharing(self):
        self.disk.write(0, 0, range(1, 601))
        self.disk.share(0, 1, 1, 77)
        shape, home = self.disk.shape, self.disk.home
        self.assertEqual((owner_at(home, shape, 1), time_at(home, shape, 1), size_at(home, shape, 1)), (1, 77, 600))
        self.assertEqual(pointers_at(home, shape, 1), pointers_at(home, shape, 0))
        self.many(15)
        self.disk.write(1, 595, (0,))
        self.many(12)
        self.disk.write(1, 596, (0,))
        self.disk.write(0, 595, (1, 2))
        self.many(12)
        self.disk.write(1, 0, (4,))
        self.disk.write(1, 30, (4,))
        self.many(9)
        self.disk.drop(0)
        self.many(15)
        self.disk.drop(1)
        self.many(100)

    def test_a_cut_that_keeps_a_part_of_shared_blocks_of_pointers(self):
        for size, copied in ((600, 0), (592, 2), (584, 2), (537, 2), (536, 1), (528, 2), (472, 1), (97, 2), (96, 2), (88, 0),
                             (80, 1), (33, 1), (32, 1), (24, 0), (23, 0), (0, 0)):
            self.disk.cut(0, 0)
            self.disk.write(0, 0, range(1, 601))
            self.disk.share(0, 1)
            self.disk.cut(1, size)
            self.many(15 - copied)
            self.disk.drop(0)
            self.disk.empty(0)
            self.disk.cut(1, 600)
            self.disk.drop(1)
            self.disk.empty(1)
            self.many(100)

    def test_own_blocks_of_pointers_come_first_that_of_two_ahead(self):
        self.disk.write(0, 0, range(1, 601))
        self.disk.share(0, 1)
        self.disk.cut(1, 100)
        two = self.disk.home[self.disk.shape.file_plate(1)][7]
        self.assertEqual((two, self.disk.home[self.disk.shape.block_plate(two - 1)]), (86, (87,) + (0,) * 7))

    def test_a_full_disk_refuses_ahead_of_what_a_cut_would_free(self):
        shape = Shape(2, 1, 1, 12, 1)
        disk = Disk(self, shape, counted=(0,))
        disk.write(0, 0, (1,) * 80)
        self.assertEqual(disk.free(), 1)
        one = disk.home[shape.file_plate(0)][6] - 1
        disk.pins = {one: True, 11: True}
        for size in (72, 32, 25):
            self.assertIsNone(disk.cut(0, size))
        self.assertIsNotNone(disk.cut(0, 24))
        self.assertEqual(disk.free(), 12 - 2 - 3)

    def test_growing_over_what_is_shared(self):
        self.disk.write(0, 0, range(1, 21))
        self.disk.share(0, 1)
        self.disk.cut(1, 17)
        self.many(97)
        self.disk.cut(1, 24)
        self.many(96)
        self.disk.cut(0, 40)
        self.many(96)

    def test_holes_need_no_blocks(self):
        for size in (599, 100, 90, 88, 33, 24, 3):
            self.disk.cut(0, 600)
            self.disk.cut(0, size)
            self.disk.grow(0, 600)
            self.many(100)
        self.disk.write(0, 599, (1,))
        self.disk.cut(0, 597)
        self.many(97)
        self.disk.cut(0, 100)
        self.many(99)

    def test_a_part_with_0s_behind_the_size_stays_shared(self):
        for size in (4, 20):
            self.disk.write(0, 0, range(1, size + 1))
            self.disk.share(0, 1)
            self.disk.grow(1, 24)
            self.many(100 - -(-size // 8))
            self.disk.drop(1)

    def test_times(self):
        self.disk.write(0, 0, (1, 2))
        draft = self.disk.step(put_time, 0, 99)
        self.assertEqual(draft.changes, {self.disk.shape.file_plate(0): (2, 0, 99, 1, 0, 0, 0, 0)})
        self.disk.holds()

    def test_empty_files_and_dropped_ones(self):
        disk = Disk(self, Shape(2, 1, 2, 9, 2), home_with(Shape(2, 1, 2, 9, 2), files={1: (77, 1, 3, 4, 5, 6, 7, 8)}), (0,))
        disk.empty(1, 1, 12)
        disk.write(1, 0, (1,) * 30)
        disk.drop(1)
        self.assertEqual(disk.free(), 9)

    def test_views(self):
        disk = self.disk
        disk.write(0, 0, range(1, 101))
        blocks = met(disk.home, disk.shape, 0)
        disk.pins = {block: True for block in blocks}
        disk.pinned = {block: disk.home[disk.shape.block_plate(block)] for block in blocks}
        disk.write(0, 0, (7,))
        self.assertEqual(disk.free(), 100 - 16 - 1)
        disk.cut(0, 90)
        disk.cut(0, 0)
        self.assertEqual(disk.free(), 100 - 16)
        # A whole file has 85 blocks, but 84 are left.
        self.assertIsNone(disk.write(0, 0, (9,) * 600))
        self.assertIsNotNone(disk.write(0, 0, (9,) * 592))
        self.assertEqual(free_blocks(Draft(disk.shape, disk.home, disk.counts, disk.pins)), [])


class AnyNumbersTest(unittest.TestCase):
    """Files whose plates and blocks hold any numbers."""

    def drawn_step(self, draw, disk):
        late = [file for file in range(disk.shape.files) if file not in disk.rows]
        file = draw.choice(list(disk.rows)) if disk.rows else None
        if file is None or (late and draw.random() < 0.15):
            return disk.empty(draw.choice(late)) if draw.random() < 0.5 or file is None else disk.share(file, draw.choice(late))
        kind = draw.random()
        size = draw.choice((draw.randint(0, 600), draw.choice(PLACES), len(disk.rows[file]), draw.randint(0, 40)))
        if kind < 0.45:
            numbers = [draw.randint(-2, 9) for _ in range(draw.choice((1, 2, 9, 30)))]
            return disk.write(file, min(size, 600 - len(numbers)), numbers)
        if kind < 0.7:
            return disk.cut(file, size)
        if kind < 0.8:
            return disk.grow(file, max(size, len(disk.rows[file])))
        if kind < 0.9:
            return disk.own(file, draw.choice((draw.randrange(75), draw.randrange(12))))
        return disk.drop(file)

    def script(self, draw, shape, few, pins):
        home = drawn_files(draw, shape, few)
        counted = draw.sample(range(shape.files), draw.randint(1, shape.files))
        disk = Disk(self, shape, home, counted, draw.sample(range(shape.blocks), pins))
        disk.holds()
        done = 0
        for _ in range(14):
            done += self.drawn_step(draw, disk) is not None
        for file in list(disk.rows):
            disk.drop(file)
        self.assertEqual(disk.counts, [0] * shape.blocks)
        draft = Draft(shape, disk.home, disk.counts, disk.pins)
        self.assertEqual(len([block for block in range(shape.blocks) if is_free(draft, block)]), shape.blocks - pins)
        return done

    def test_scripts(self):
        draw = random.Random(46)
        done = 0
        for _ in range(150):
            done += self.script(draw, Shape(2, 1, 4, 60, 2), draw.choice((3, 8, 20)), draw.choice((0, 0, 5)))
        self.assertGreater(done, 600)

    def test_scripts_on_few_blocks(self):
        draw = random.Random(460)
        for _ in range(150):
            self.script(draw, Shape(2, 1, 3, 9, 2), draw.choice((2, 4, 9)), draw.choice((0, 1, 3)))

    def test_scripts_of_fresh_files(self):
        draw = random.Random(461)
        for _ in range(60):
            disk = Disk(self, Shape(2, 1, 4, 200, 2))
            for _ in range(25):
                self.drawn_step(draw, disk)
            for file in list(disk.rows):
                disk.cut(file, 0)
            self.assertEqual(disk.free(), 200)

    def test_pointers_that_lead_to_their_own_block(self):
        shape = Shape(2, 1, 2, 40, 1)
        for pointers in ((0, 0, 0, 1, 1), (1, 1, 1, 1, 1), (0, 0, 0, 0, 1), (2, 1, 0, 2, 1)):
            for part in (0, 2, 3, 10, 11, 18, 74):
                for size in (0, 5, 24, 27, 88, 91, 152, 600):
                    home = home_with(shape, files={0: (size, 0, 0) + pointers, 1: (600, 0, 0) + pointers[::-1]},
                                     blocks={0: (1, 2, 1, 0, 1, 1, 2, 1), 1: (1,) * 8})
                    for call in ("own", "write", "cut", "grow"):
                        disk = Disk(self, shape, dict(home), (0, 1))
                        if call == "own":
                            disk.own(0, part)
                        elif call == "write":
                            disk.write(0, part * 8 + 3, (7, 8))
                        elif call == "cut":
                            disk.cut(0, part * 8 + 3)
                        else:
                            disk.grow(0, max(size, part * 8 + 3))

    def test_own_data_of_each_part(self):
        draw = random.Random(462)
        shape = Shape(2, 1, 2, 60, 1)
        for _ in range(10):
            home = drawn_files(draw, shape, 10)
            for part in range(0, 75, 4):
                disk = Disk(self, shape, dict(home), (0, 1))
                before = numbers_at(home, shape, 0, 0, 600)
                if disk.own(0, part):
                    self.assertEqual(numbers_at(disk.home, shape, 0, 0, 600), before)
                    plate = shape.file_plate(0)
                    for at in spot_of(part):
                        block = disk.home[plate][at] - 1
                        self.assertEqual(disk.counts[block], 1)
                        plate = shape.block_plate(block)


if __name__ == "__main__":
    unittest.main()
