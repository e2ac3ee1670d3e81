"""[44]: drafts."""

import random
import unittest

from plugproof.drafts import Draft
from plugproof.shape import Shape

SHAPE = Shape(3, 2, 2, 4, 2)


def cells(number):
    return tuple(range(number, number + 8))


class DraftTest(unittest.TestCase):
    def setUp(self):
        self.home = SHAPE.empty_home()
        self.counts = [0, 1, 2, 3]
        self.pins = {2: True}
        self.draft = Draft(SHAPE, self.home, self.counts, self.pins)

    def test_fresh(self):
        draft = self.draft
        self.assertIs(draft.shape, SHAPE)
        self.assertEqual((draft.home, draft.counts, draft.pins, draft.changes), (self.home, self.counts, {2: True}, {}))
        self.assertIsNot(draft.home, self.home)
        self.assertIsNot(draft.counts, self.counts)
        self.assertIs(draft.pins, self.pins)
        self.assertEqual(Draft(shape=SHAPE, home=self.home, counts=(4, 5, 6, 7), pins={}).counts, [4, 5, 6, 7])

    def test_what_was_handed_in_stays(self):
        self.draft.put(3, cells(1))
        self.draft.put_cell((0, 0), 9)
        self.draft.tick()
        self.draft.put_count(1, 77)
        self.assertEqual((self.home, self.counts, self.pins), (SHAPE.empty_home(), [0, 1, 2, 3], {2: True}))

    def test_put(self):
        self.draft.put(number=3, plate=cells(1))
        self.draft.put(5, cells(2))
        self.draft.put(3, cells(4))
        self.assertEqual(self.draft.changes, {3: cells(4), 5: cells(2)})
        self.assertEqual(self.draft.home, {**self.home, 3: cells(4), 5: cells(2)})

    def test_put_cell_and_cell(self):
        self.draft.put(4, cells(10))
        for at in range(8):
            self.assertEqual(self.draft.cell((4, at)), 10 + at)
        self.draft.put_cell((4, 0), -1)
        self.draft.put_cell((4, 7), -2)
        self.draft.put_cell((2, 3), 5)
        self.assertEqual(self.draft.changes, {4: (-1, 11, 12, 13, 14, 15, 16, -2), 2: (0, 0, 0, 5, 0, 0, 0, 0)})
        self.assertEqual((self.draft.cell((4, 7)), self.draft.cell((2, 3)), self.draft.cell((2, 4))), (-2, 5, 0))

    def test_counts(self):
        self.assertEqual([self.draft.count(block) for block in range(4)], [0, 1, 2, 3])
        self.draft.put_count(3, 9)
        self.draft.put_count(block=0, value=1)
        self.assertEqual((self.draft.counts, self.draft.count(3)), ([1, 1, 2, 9], 9))
        self.assertEqual(self.draft.changes, {})

    def test_tick(self):
        self.assertEqual([self.draft.tick() for _ in range(3)], [1, 2, 3])
        self.assertEqual(self.draft.changes, {0: (3, 0, 0, 0, 0, 0, 0, 0)})
        self.home[0] = (-5, 1, 2, 3, 4, 5, 6, 7)
        draft = Draft(SHAPE, self.home, [], {})
        self.assertEqual((draft.tick(), draft.changes), (-4, {0: (-4, 1, 2, 3, 4, 5, 6, 7)}))

    def test_home_is_the_one_handed_in_with_changes_over_it(self):
        draw = random.Random(44)
        for _ in range(200):
            step = draw.randrange(3)
            if step == 0:
                self.draft.put(draw.randrange(SHAPE.plates), cells(draw.randrange(99)))
            elif step == 1:
                self.draft.put_cell((draw.randrange(SHAPE.plates), draw.randrange(8)), draw.randrange(-99, 99))
            else:
                self.draft.tick()
            self.assertEqual(self.draft.home, {**self.home, **self.draft.changes})


if __name__ == "__main__":
    unittest.main()
