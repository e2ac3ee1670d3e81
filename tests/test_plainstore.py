"""[56]: a store that never falls."""

import unittest

from plugproof.plainstore import PlainStore


def cells(number):
    return (number,) * 8


class PlainStoreTest(unittest.TestCase):
    def setUp(self):
        self.first = {0: cells(0), 1: cells(1), 2: cells(2)}
        self.store = PlainStore(self.first)

    def test_all_homes_so_far(self):
        self.assertEqual(self.store.homes, [self.first])
        self.store.put({1: cells(7)})
        self.store.put({0: cells(8), 2: cells(9)})
        second = {0: cells(0), 1: cells(7), 2: cells(2)}
        third = {0: cells(8), 1: cells(7), 2: cells(9)}
        self.assertEqual(self.store.homes, [self.first, second, third])
        self.assertEqual(self.store.home(), third)

    def test_the_same_cells_once_more_are_a_deed(self):
        self.store.put({1: cells(1)})
        self.assertEqual(self.store.homes, [self.first, self.first])

    def test_without_pairs_it_is_no_deed(self):
        self.store.put({})
        self.assertEqual(self.store.homes, [self.first])

    def test_settled(self):
        self.assertEqual(self.store.settled, 0)
        self.store.put({1: cells(7)})
        self.assertEqual(self.store.settled, 0)
        self.store.put({1: cells(8)})
        self.store.sync()
        self.assertEqual(self.store.settled, 2)
        self.store.put({1: cells(9)})
        self.assertEqual(self.store.settled, 2)
        self.store.sync()
        self.store.sync()
        self.assertEqual(self.store.settled, 3)

    def test_each_home_is_a_new_dict(self):
        self.assertIsNot(self.store.home(), self.store.home())
        self.store.home()[0] = cells(5)
        self.assertEqual(self.store.home(), self.first)
        self.store.put({1: cells(7)})
        self.store.home()[1] = cells(5)
        self.assertEqual(self.store.home()[1], cells(7))
        self.assertEqual(self.store.homes[0], {0: cells(0), 1: cells(1), 2: cells(2)})

    def test_what_is_handed_in_stays_and_is_not_kept(self):
        changes = {2: cells(7)}
        self.store.put(changes)
        self.assertEqual((changes, self.first), ({2: cells(7)}, {0: cells(0), 1: cells(1), 2: cells(2)}))
        changes[0] = cells(6)
        self.first[1] = cells(6)
        self.assertEqual(self.store.home(), {0: cells(0), 1: cells(1), 2: cells(7)})
        self.assertEqual(self.store.homes[0], {0: cells(0), 1: cells(1), 2: cells(2)})


if __name__ == "__main__":
    unittest.main()
