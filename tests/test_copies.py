"""[48]: copies, which cost names and files but not a block."""

import random
import unittest

from homes import drawn_right_home, home_with

from plugproof.copies import copy_dir, copy_row, free_file
from plugproof.drafts import Draft
from plugproof.errors import Refused
from plugproof.files import cut, empty_file, write
from plugproof.names import are_right, child_of, put_dir
from plugproof.readings import content_of, counts_of, dirs_of, named_files, owner_at, row_at, rows_of, time_at, tree_of
from plugproof.shape import Shape, number_of

SHAPE = Shape(20, 30, 30, 60, 2)
SOURCE, COPY = number_of("src"), number_of("copy")


def draft_of(home, shape=SHAPE, pins=()):
    counts = counts_of(home, shape, named_files(home, shape))
    return Draft(shape, home, counts, {block: True for block in pins})


def without(told):
    """What a directory holds, without owners, times and which file it is."""
    return [entry[:2] + ((without(entry[2]),) if entry[1] == "dir" else (entry[5],)) for entry in told]


def owners(told):
    found = set()
    for entry in told:
        found |= owners(entry[2]) if entry[1] == "dir" else {entry[3:5]}
    return found


def holds(draft, name):
    """What the directory of this name in the root holds."""
    return [entry[2] for entry in tree_of(draft.home, draft.shape)[0] if entry[0] == name][0]


class FreeFileTest(unittest.TestCase):
    def test_the_least_one(self):
        home = home_with(SHAPE, {}, {0: (0, "a", 0), 5: (77, "b", 2)})
        for held, told in (((), 1), ((1,), 3), ([3], 1), ({1: True, 3: True}, 4), ((4, 1, 3), 5), ((0, 2), 1)):
            self.assertEqual(free_file(draft_of(home), held), told)

    def test_full(self):
        shape = Shape(3, 3, 3, 3, 1)
        home = home_with(shape, {}, {0: (0, "a", 0), 1: (0, "b", 2)})
        self.assertEqual(free_file(draft_of(home, shape), [0, 2]), 1)
        for draft, held in ((draft_of(home, shape), [1]), (draft_of(shape.empty_home(), shape), (0, 1, 2))):
            with self.assertRaises(Refused) as caught:
                free_file(draft, held)
            self.assertEqual(caught.exception.word, "full")


class CopyRowTest(unittest.TestCase):
    def setUp(self):
        self.draft = draft_of(home_with(SHAPE, {4: (0, "d")}, {3: (0, "a", 1)}))
        write(self.draft, 1, 0, range(1, 101))
        self.draft.changes = {}

    def test_a_file_of_its_own(self):
        draft = self.draft
        used = [block for block, count in enumerate(draft.counts) if count]
        copy_row(draft, (0,), 1, 4, number_of("k"), 1, 33)
        kind, row = child_of(draft.home, SHAPE, 4, number_of("k"))
        file = row_at(draft.home, SHAPE, row)[2]
        self.assertEqual((kind, row, file), (1, 0, 2))
        self.assertEqual(content_of(draft.home, SHAPE, file), tuple(range(1, 101)))
        self.assertEqual((owner_at(draft.home, SHAPE, file), time_at(draft.home, SHAPE, file)), (1, 33))
        self.assertEqual(draft.counts, [2 if block in used else 0 for block in range(SHAPE.blocks)])
        self.assertEqual(sorted(draft.changes), [SHAPE.row_cell(row)[0], SHAPE.file_plate(file)])

    def test_each_goes_its_own_way(self):
        draft = self.draft
        copy_row(draft, (), 1, 0, number_of("k"), 0, 1)
        write(draft, 0, 50, (0, 0))
        self.assertEqual(content_of(draft.home, SHAPE, 1), tuple(range(1, 101)))
        cut(draft, 1, 3)
        self.assertEqual(content_of(draft.home, SHAPE, 0), tuple(range(1, 51)) + (0, 0) + tuple(range(53, 101)))

    def test_full(self):
        for shape, rows in ((Shape(3, 1, 3, 1, 1), 1), (Shape(3, 3, 1, 1, 1), 1)):
            draft = draft_of(home_with(shape, {}, {0: (0, "a", 0)}), shape)
            with self.assertRaises(Refused) as caught:
                copy_row(draft, (), 0, 0, 7, 0, 1)
            self.assertEqual(caught.exception.word, "full")


class CopyDirTest(unittest.TestCase):
    def copied(self, draft, number, up=0, owner=1, time=70, held=()):
        """The draft behind a copy of a directory by the name `copy`, with what any copy must keep."""
        before, blocks, rows = dict(draft.home), list(draft.counts), dict(rows_of(draft.home, draft.shape))
        dirs = dict(dirs_of(draft.home, draft.shape))
        draft.changes = {}
        copy_dir(draft, held, number, up, COPY, owner, time)
        self.assertEqual(draft.counts, counts_of(draft.home, draft.shape, named_files(draft.home, draft.shape)))
        self.assertEqual([count > 0 for count in draft.counts], [count > 0 for count in blocks])
        late = [row for place, row in rows_of(draft.home, draft.shape) if place not in rows]
        self.assertEqual(len({row[2] for row in late}), len(late))
        self.assertFalse({row[2] for row in late} & ({row[2] for row in rows.values()} | set(held)))
        late_dirs = [place for place, _ in dirs_of(draft.home, draft.shape) if place not in dirs]
        self.assertLessEqual(len(draft.changes) + 1, 1 + len(late_dirs) + 2 * len(late))
        for plate, told in draft.changes.items():
            self.assertTrue(plate < draft.shape.first_block and told != before[plate])
        return draft

    def test_names_files_and_empty_directories(self):
        home = home_with(
            SHAPE, {2: (0, "src"), 3: (2, "b"), 4: (2, "c"), 5: (4, "a"), 6: (0, "d")},
            {0: (2, "x", 7), 1: (2, "y", 7), 2: (5, "x", 8), 3: (0, "z", 7), 4: (6, "x", 9)},
        )
        draft = draft_of(home)
        for file, many in ((7, 30), (8, 5), (9, 90)):
            empty_file(draft, file, 0, 3)
            write(draft, file, 0, range(many))
        before = tree_of(draft.home, SHAPE)
        self.copied(draft, 2, owner=1, time=70, held=(0, 2))
        self.assertEqual(without(holds(draft, "copy")), without(holds(draft, "src")))
        self.assertEqual(owners(holds(draft, "copy")), {(1, 70)})
        told = [entry for entry in tree_of(draft.home, SHAPE)[0] if entry[0] != "copy"]
        self.assertEqual(without(told), without(before[0]))
        self.assertEqual(owners(told), {(0, 3)})
        self.assertTrue(are_right(draft.home, SHAPE))
        self.assertEqual(named_files(draft.home, SHAPE), [1, 3, 4, 7, 8, 9])

    def test_of_an_empty_directory(self):
        draft = self.copied(draft_of(home_with(SHAPE, {2: (0, "src")})), 2)
        self.assertEqual(tree_of(draft.home, SHAPE), ((("src", "dir", ()), ("copy", "dir", ())), ()))

    def test_into_found(self):
        draft = self.copied(draft_of(home_with(SHAPE, {2: (0, "src"), 3: (2, "a")}, {0: (2, "b", 0)})), 2, up=1)
        self.assertEqual(without(tree_of(draft.home, SHAPE)[1]), [("copy", "dir", [("a", "dir", []), ("b", "file", ())])])

    def test_beneath_itself_it_is_what_stood_there(self):
        draft = self.copied(draft_of(home_with(SHAPE, {2: (0, "src"), 3: (2, "a")}, {0: (3, "b", 0)})), 2, up=3)
        inner = [("a", "dir", [("b", "file", ())])]
        expected = [("a", "dir", [("b", "file", ()), ("copy", "dir", inner)])]
        self.assertEqual(without(holds(draft, "src")), expected)

    def test_drawn_trees(self):
        draw = random.Random(48)
        greatest = 0
        for _ in range(150):
            shape = Shape(40, 60, 40, 40, 2)
            home = drawn_right_home(draw, Shape(12, 12, 40, 1, 2))
            small = Shape(12, 12, 40, 1, 2)
            dirs = {number: place for number, place in dirs_of(home, small)}
            draft = draft_of(shape.empty_home(), shape)
            put_dir(draft, 30, 0, SOURCE)
            for number, (up, name) in dirs.items():
                put_dir(draft, number, 30 if up == 0 else up, name)
            for number, (up, name, file) in rows_of(home, small):
                draft.put_cell(shape.row_cell(number), 1 + ((30 if up == 0 else up) * 475254 + name) * 40 + file)
            draft = draft_of(draft.home, shape)
            for file in named_files(draft.home, shape):
                empty_file(draft, file, draw.randrange(2), draw.randrange(5))
                write(draft, file, draw.randint(0, 20), (file + 1,))
            self.copied(draft, 30, time=99)
            self.assertEqual(without(holds(draft, "copy")), without(holds(draft, "src")))
            self.assertLessEqual(owners(holds(draft, "copy")), {(1, 99)})
            greatest = max(greatest, len(rows_of(draft.home, shape)))
            self.written(draw, draft)
        self.assertGreater(greatest, 15)

    def written(self, draw, draft):
        """Behind writes to either of them the other one reads as before."""
        for name, other in (("src", "copy"), ("copy", "src")):
            before = holds(draft, other)
            for file in draw.sample(self.files_of(draft, name), min(3, len(self.files_of(draft, name)))):
                write(draft, file, draw.randint(0, 30), (77,))
                cut(draft, file, draw.randint(0, 9))
            self.assertEqual(without(holds(draft, other)), without(before))
            self.assertEqual(draft.counts, counts_of(draft.home, draft.shape, named_files(draft.home, draft.shape)))

    def files_of(self, draft, name):
        top = child_of(draft.home, draft.shape, 0, number_of(name))[1]
        within, dirs = [top], dirs_of(draft.home, draft.shape)
        for _ in range(len(dirs)):
            within += [number for number, (up, _) in dirs if up in within and number not in within]
        return sorted({file for _, (up, _, file) in rows_of(draft.home, draft.shape) if up in within})

    def test_full(self):
        home = {2: (0, "src"), 3: (2, "a")}, {0: (2, "b", 0), 1: (3, "c", 1)}
        for numbers in ((5, 4, 4, 1, 1), (6, 3, 4, 1, 1), (6, 4, 3, 1, 1)):
            shape = Shape(*numbers)
            with self.assertRaises(Refused) as caught:
                copy_dir(draft_of(home_with(shape, *home), shape), (), 2, 0, COPY, 0, 1)
            self.assertEqual(caught.exception.word, "full")
        shape = Shape(6, 4, 4, 1, 1)
        self.copied(draft_of(home_with(shape, *home), shape), 2)
        with self.assertRaises(Refused):
            copy_dir(draft_of(home_with(shape, *home), shape), (3,), 2, 0, COPY, 0, 1)

    def test_the_greatest_tree_by_the_deepest_way(self):
        shape = Shape(40, 60, 40, 1, 1)
        dirs = {number: (0 if number == 2 else number - 1, "src" if number == 2 else "a") for number in range(2, 21)}
        draft = draft_of(home_with(shape, dirs, {i: (20, "abc"[i % 3], i) for i in range(3)}), shape)
        self.copied(draft, 2, owner=0)
        self.assertEqual(without(holds(draft, "copy")), without(holds(draft, "src")))


if __name__ == "__main__":
    unittest.main()
