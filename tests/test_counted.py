"""[45]: blocks that are free, taken, own, shared and dropped."""

import random
import unittest

from homes import drawn_files, home_with

from plugproof.counted import drop, free_blocks, is_free, own, share, take
from plugproof.drafts import Draft
from plugproof.errors import Refused
from plugproof.readings import counts_of, met_below
from plugproof.shape import Shape

SHAPE = Shape(2, 1, 2, 6, 1)
NINES = (9,) * 8


def draft_of(home=None, counts=(0,) * 6, pins=()):
    return Draft(SHAPE, home or SHAPE.empty_home(), counts, {block: True for block in pins})


class FreeTest(unittest.TestCase):
    def test_free(self):
        draft = draft_of(counts=(0, 1, 0, 2, 0, 1), pins=(2, 3))
        self.assertEqual([is_free(draft, block) for block in range(6)], [True, False, False, False, True, False])
        self.assertEqual(free_blocks(draft), [0, 4])
        self.assertEqual(free_blocks(draft_of()), [0, 1, 2, 3, 4, 5])
        self.assertEqual(free_blocks(draft_of(counts=(1,) * 6)), [])

    def test_a_pin_of_any_worth_pins(self):
        draft = Draft(SHAPE, SHAPE.empty_home(), (0,) * 6, {1: False, 3: 0, 5: ()})
        self.assertEqual(free_blocks(draft), [0, 2, 4])


class TakeTest(unittest.TestCase):
    def test_the_least_free_one(self):
        draft = draft_of(counts=(1, 0, 0, 0, 0, 0), pins=(1, 3))
        self.assertEqual([take(draft, NINES), take(draft, (1,) * 8), take(draft, (2,) * 8)], [3, 5, 6])
        self.assertEqual(draft.counts, [1, 0, 1, 0, 1, 1])
        plates = [SHAPE.block_plate(block) for block in (2, 4, 5)]
        self.assertEqual(draft.changes, dict(zip(plates, (NINES, (1,) * 8, (2,) * 8))))

    def test_only_pinned_ones_are_left(self):
        for draft in (draft_of(pins=range(6)), draft_of(counts=(1,) * 6), draft_of(counts=(1, 2) + (0,) * 4, pins=range(2, 6))):
            with self.assertRaises(Refused) as caught:
                take(draft, NINES)
            self.assertEqual(caught.exception.word, "full")
            self.assertEqual(draft.changes, {})


class OwnTest(unittest.TestCase):
    def setUp(self):
        self.home = home_with(SHAPE, blocks={1: NINES, 2: (4, 0, 5, 0, 0, 0, 0, 0)})

    def own(self, pointer, counts, pins=()):
        draft = draft_of(self.home, counts, pins)
        return own(draft, pointer), draft.counts, draft.changes

    def test_a_hole(self):
        for pointer in (0, -4, 7, 10 ** 9):
            expected = (2, [1, 1, 0, 0, 0, 0], {SHAPE.block_plate(1): (0,) * 8})
            self.assertEqual(self.own(pointer, (1, 0, 0, 0, 0, 0)), expected)

    def test_one_that_is_own(self):
        self.assertEqual(self.own(2, (0, 1, 0, 0, 0, 0)), (2, [0, 1, 0, 0, 0, 0], {}))
        self.assertEqual(self.own(6, (0, 0, 0, 0, 0, 1), (0, 1)), (6, [0, 0, 0, 0, 0, 1], {}))

    def test_one_that_is_pinned(self):
        expected = (1, [1, 0, 0, 0, 0, 0], {SHAPE.block_plate(0): NINES})
        self.assertEqual(self.own(2, (0, 1, 0, 0, 0, 0), (1,)), expected)

    def test_one_that_is_met_twice(self):
        self.assertEqual(self.own(2, (1, 2, 0, 0, 0, 0)), (3, [1, 1, 1, 0, 0, 0], {SHAPE.block_plate(2): NINES}))
        self.assertEqual(self.own(2, (0, 3, 0, 0, 0, 0), (1,)), (1, [1, 2, 0, 0, 0, 0], {SHAPE.block_plate(0): NINES}))

    def test_what_lies_behind_a_copied_one_keeps_its_counts(self):
        told = self.own(3, (0, 0, 2, 2, 2, 0))
        self.assertEqual(told, (1, [1, 0, 1, 2, 2, 0], {SHAPE.block_plate(0): (4, 0, 5, 0, 0, 0, 0, 0)}))

    def test_full(self):
        for pointer, counts, pins in ((0, (1,) * 6, ()), (2, (1, 2, 1, 1, 1, 1), ()), (2, (1, 1, 1, 1, 1, 0), (1, 5))):
            with self.assertRaises(Refused) as caught:
                self.own(pointer, counts, pins)
            self.assertEqual(caught.exception.word, "full")
        self.assertEqual(self.own(2, (1,) * 6)[0], 2)


class ShareAndDropTest(unittest.TestCase):
    def setUp(self):
        # Block 3 leads to itself, to block 1 twice, and to block 2, which leads to blocks 0 and 2.
        self.home = home_with(SHAPE, blocks={2: (1, 3, 0, 0, 0, 0, 0, -7), 3: (4, 2, 3, 2, 0, 99, 0, 0)})

    def test_each_level(self):
        for pointer, level, more in (
            (0, 0, (0, 0, 0, 0, 0, 0)), (7, 2, (0, 0, 0, 0, 0, 0)), (4, 0, (0, 0, 0, 1, 0, 0)),
            (3, 1, (1, 0, 2, 0, 0, 0)), (4, 1, (0, 2, 1, 2, 0, 0)), (3, 2, (2, 0, 3, 0, 0, 0)),
            # Itself, then itself as a block of pointers, then block 1, 2 and 1 again with what they lead to.
            (4, 2, (1, 4, 3, 3, 0, 0)),
        ):
            for call, sign in ((share, 1), (drop, -1)):
                draft = draft_of(self.home, (9,) * 6, (3,))
                call(draft, pointer, level)
                self.assertEqual(draft.counts, [9 + sign * number for number in more], (pointer, level))
                self.assertEqual((draft.changes, draft.home), ({}, self.home))

    def test_drawn_blocks(self):
        draw = random.Random(45)
        for _ in range(100):
            home = drawn_files(draw, SHAPE, 4)
            draft = draft_of(home, counts_of(home, SHAPE, [0, 1]))
            before = list(draft.counts)
            pointer, level = draw.randint(0, 7), draw.randrange(3)
            share(draft, pointer, level)
            met = met_below(home, SHAPE, pointer, level)
            self.assertEqual(draft.counts, [count + met.count(block) for block, count in enumerate(before)])
            drop(draft, pointer, level)
            self.assertEqual(draft.counts, before)


if __name__ == "__main__":
    unittest.main()
