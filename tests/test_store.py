"""[6], [10] to [13]: stores, their deeds, and opening."""

import random
import unittest

from plugproof.disk import Disk, disk_after
from plugproof.storeerrors import BadCells, BadPlate, NoHead, TooGreat
from plugproof.store import Store, fresh_store, home_plate, open_store
from weavings import Follower, cells, drawn_store, first_home

A, B, C, D = cells(1), cells(2), cells(3), cells(4)
ZERO = (0,) * 8
BARRIER = ("barrier",)


def write(plate, value):
    return "write", plate, value


def row(group, at, many, home, value):
    return (group, at, many, home) + value


def store_disk(heads, ring, home):
    """A disk of a store on which just these values stand."""
    disk = Disk(2 + len(ring) + len(home))
    for plate, value in enumerate(tuple(heads) + tuple(ring) + tuple(home)):
        disk.write(plate, value)
    disk.barrier()
    return disk


def state(store):
    disk = store.disk()
    return (
        store.trace, store.deeds, store.settled_deeds, store.groups, store.home(), disk.settled, disk.loose,
    )


class ReadingTest(unittest.TestCase):
    def test_home_plates_stand_behind_the_ring(self):
        self.assertEqual([home_plate(3, plate) for plate in range(3)], [5, 6, 7])
        self.assertEqual(home_plate(1, 0), 3)

    def test_attributes(self):
        disk = store_disk(((4, 2, 9), ()), ((), ()), (A,))
        store = Store(plates=1, slots=2, disk=disk)
        self.assertEqual((store.plates, store.slots, store.trace, store.deeds, store.settled_deeds), (1, 2, (), 0, 0))
        self.assertIs(store.begin, disk)
        self.assertEqual(store.groups, ())
        self.assertEqual(store.home(), {0: A})

    def test_home_plates_that_hold_no_cells(self):
        home = (A, None, (), A[:7], list(A), A[:7] + (True,), A + (0,), 5, C)
        store = Store(len(home), 1, store_disk(((0, 0, 0), None), ((),), home))
        self.assertEqual(store.home(), {0: A, 1: ZERO, 2: ZERO, 3: ZERO, 4: ZERO, 5: ZERO, 6: ZERO, 7: ZERO, 8: C})

    def test_groups_stand_over_the_home_plates_one_after_another(self):
        ring = (row(6, 0, 1, 0, C), row(4, 0, 2, 0, A), row(4, 1, 2, 1, A), row(5, 0, 1, 0, B))
        store = Store(3, 4, store_disk(((2, 4, 1), (1, 0, 0)), ring, (D, D, D)))
        self.assertEqual(store.home(), {0: C, 1: A, 2: D})
        self.assertEqual(store.groups, ((4, 1, ((0, A), (1, A))), (5, 3, ((0, B),)), (6, 4, ((0, C),))))
        self.assertEqual(Store(3, 4, store_disk(((2, 6, 4), (1, 0, 0)), ring, (D, D, D))).home(), {0: C, 1: D, 2: D})

    def test_home_plates_beyond_the_last(self):
        ring = (row(0, 0, 2, 1, A), row(0, 1, 2, 9, B), row(1, 0, 1, 2, C))
        disk = store_disk(((0, 0, 0), ()), ring, (D, D))
        self.assertEqual(Store(2, 3, disk).home(), {0: D, 1: A})
        opened = open_store(disk, 2, 3)
        self.assertEqual(opened.home(), {0: D, 1: A})
        self.assertEqual(opened.trace, (write(6, A), BARRIER, write(1, (1, 2, 3)), BARRIER))

    def test_one_plate_twice_in_a_group(self):
        ring = (row(0, 0, 2, 0, A), row(0, 1, 2, 0, B))
        disk = store_disk(((0, 0, 0), ()), ring, (D,))
        self.assertEqual(Store(1, 2, disk).home(), {0: B})
        self.assertEqual(open_store(disk, 1, 2).trace[:2], (write(4, B), BARRIER))

    def test_no_head(self):
        for heads in (((), ()), (None, None), ((1, 0, 0), (0, 0, 0)), ((0, 0), [1, 0, 0])):
            disk = store_disk(heads, ((),), (A,))
            for call in (lambda: Store(1, 1, disk), lambda: open_store(disk, 1, 1)):
                self.assertRaises(NoHead, call)

    def test_a_torn_head_leaves_the_other(self):
        disk = store_disk((None, (3, 1, 1)), (row(1, 0, 1, 0, B), row(1, 0, 1, 0, A)), (D,))
        self.assertEqual(Store(1, 2, disk).home(), {0: A})

    def test_the_disk_handed_in_stays(self):
        disk = store_disk(((0, 0, 0), ()), (row(0, 0, 1, 0, A), ()), (D,))
        before = disk.settled
        store = open_store(disk, 1, 2)
        store.put({0: B})
        store.sync()
        store.lay()
        self.assertEqual((disk.settled, disk.loose), (before, ()))


class NumberTest(unittest.TestCase):
    def head_behind_opening(self, head, ring):
        heads = ((), head) if head[0] % 2 else (head, ())
        store = open_store(store_disk(heads, ring, (D,)), 1, len(ring))
        return store.trace[-2][2]

    def test_the_heads_first_is_the_least(self):
        self.assertEqual(self.head_behind_opening((0, 0, 0), ((), ())), (1, 0, 0))
        self.assertEqual(self.head_behind_opening((7, 5, 3), ((), row(2, 0, 1, 0, A))), (8, 5, 3))
        self.assertEqual(self.head_behind_opening((7, 5, 3), (row(4, 0, 1, 0, A), None)), (8, 5, 3))

    def test_beyond_all_log_plates_that_can_be_read(self):
        self.assertEqual(self.head_behind_opening((7, 5, 3), (row(5, 1, 2, 0, A), ())), (8, 6, 3))
        self.assertEqual(self.head_behind_opening((7, 5, 2), (row(9, 0, 1, 0, A), row(6, 0, 1, 0, A))), (8, 10, 2))
        self.assertEqual(self.head_behind_opening((2, 5, 2), (row(5, 0, 1, 0, A), row(40, 2, 3, 9, A))), (3, 41, 3))
        self.assertEqual(self.head_behind_opening((2, 5, 2), (row(5, 0, 1, 0, A), row(6, 0, 1, 0, A))), (3, 7, 4))

    def test_what_is_no_log_plate_has_no_number(self):
        ring = (row(9, 1, 1, 0, A), list(row(9, 0, 1, 0, A)), row(9, 0, 1, 0, A)[:11])
        self.assertEqual(self.head_behind_opening((1, 2, 0), ring), (2, 2, 0))

    def test_groups_get_the_next_numbers(self):
        store = open_store(store_disk(((0, 3, 1), ()), (row(8, 0, 2, 0, A), ()), (D,)), 1, 2)
        store.put({0: A})
        store.push()
        store.put({0: B})
        store.push()
        self.assertEqual(store.trace[3:], (write(3, row(9, 0, 1, 0, A)), write(2, row(10, 0, 1, 0, B))))
        self.assertEqual(store.groups, ((9, 1, ((0, A),)), (10, 2, ((0, B),))))


class FreshTest(unittest.TestCase):
    def test_what_it_leaves(self):
        store = fresh_store(plates=2, slots=3, home={1: B, 0: A})
        disk = store.disk()
        self.assertEqual((disk.settled, disk.loose), (((0, 0, 0), (), (), (), (), A, B), ()))
        self.assertEqual((store.begin.settled, store.begin.loose), (disk.settled, ()))
        self.assertEqual(state(store)[:5], ((), 0, 0, (), {0: A, 1: B}))

    def test_errors_in_their_order(self):
        with self.assertRaises(BadPlate) as caught:
            fresh_store(3, 2, {1: None, 7: A, -1: A})
        self.assertEqual(caught.exception.plate, 7)
        with self.assertRaises(BadCells) as told:
            fresh_store(3, 2, {2: None, 1: 5})
        self.assertEqual(told.exception.plate, 1)
        for home, missing in (({}, 0), ({0: A, 2: A}, 1), ({2: A, 1: A}, 0), ({1: A, 0: A}, 2)):
            with self.assertRaises(BadPlate) as caught:
                fresh_store(3, 2, home)
            self.assertEqual(caught.exception.plate, missing)
        with self.assertRaises(BadPlate) as caught:
            fresh_store(2, 2, {0: A, True: A})
        self.assertIs(caught.exception.plate, True)

    def test_the_dict_handed_in_is_not_kept(self):
        home = {0: A}
        store = fresh_store(1, 1, home)
        home[0] = B
        self.assertEqual(store.home(), {0: A})


class PutTest(unittest.TestCase):
    def setUp(self):
        self.store = fresh_store(3, 2, first_home(3))

    def refused(self, error, changes):
        before = state(self.store)
        with self.assertRaises(error) as caught:
            self.store.put(changes)
        self.assertEqual(state(self.store), before)
        return caught.exception

    def test_home_and_block(self):
        self.store.put({1: A})
        self.assertEqual(self.store.home(), {**first_home(3), 1: A})
        self.assertEqual([self.store.block(plate) for plate in range(3)], [cells(-1), A, cells(-3)])
        for plate in (3, -1, True, None, "1", (1,)):
            with self.assertRaises(BadPlate) as caught:
                self.store.block(plate)
            self.assertIs(caught.exception.plate, plate)

    def test_home_and_disk_are_new_each_time(self):
        self.store.home()[0] = None
        self.store.disk().write(0, None)
        self.assertEqual(self.store.home(), first_home(3))
        self.assertEqual(self.store.disk().loose, ())

    def test_errors_in_their_order(self):
        self.store.put({0: A})
        self.assertEqual(self.refused(BadPlate, {0: None, 3: A, -1: A}).plate, 3)
        self.assertIs(self.refused(BadPlate, {0: A, True: A, 2: A}).plate, True)
        self.assertEqual(self.refused(BadCells, {2: None, 1: A[:7], 0: A}).plate, 1)
        self.assertEqual(self.refused(TooGreat, {0: A, 1: A, 2: A}).many, 3)
        self.assertEqual(self.store.deeds, 1)

    def test_too_great_ahead_of_the_push(self):
        self.store.put({0: A, 1: A})
        self.assertEqual(self.refused(TooGreat, {2: A, 1: A, 0: A}).many, 3)
        self.assertEqual(self.store.trace, ())

    def test_as_many_plates_as_slots(self):
        self.store.put({2: A, 0: B})
        self.store.push()
        self.assertEqual(self.store.trace, (write(2, row(0, 0, 2, 0, B)), write(3, row(0, 1, 2, 2, A))))

    def test_a_dict_without_pairs_is_no_deed(self):
        self.store.put({0: A, 1: A})
        before = state(self.store)
        self.store.put({})
        self.assertEqual(state(self.store), before)
        self.assertEqual(self.store.deeds, 1)

    def test_the_dict_handed_in_is_not_kept(self):
        changes = {0: A}
        self.store.put(changes)
        changes[0] = B
        self.store.push()
        self.assertEqual(self.store.trace, (write(2, row(0, 0, 1, 0, A)),))

    def test_deeds_are_put_together_until_they_have_too_many_plates(self):
        self.store.put({0: A})
        self.store.put({1: B})
        self.store.put({1: C, 0: B})
        self.assertEqual((self.store.trace, self.store.deeds), ((), 3))
        self.store.put({2: A})
        self.assertEqual(self.store.trace, (write(2, row(0, 0, 2, 0, B)), write(3, row(0, 1, 2, 1, C))))
        self.assertEqual(self.store.groups, ((0, 0, ((0, B), (1, C))),))
        self.assertEqual((self.store.deeds, self.store.home()), (4, {0: B, 1: C, 2: A}))

    def test_a_group_has_its_home_plates_ascending(self):
        self.store.put({2: A})
        self.store.put({0: B})
        self.store.push()
        self.assertEqual(self.store.trace, (write(2, row(0, 0, 2, 0, B)), write(3, row(0, 1, 2, 2, A))))
        self.assertEqual(self.store.groups, ((0, 0, ((0, B), (2, A))),))

    def test_a_deed_that_changes_nothing_is_a_deed(self):
        self.store.put({0: cells(-1)})
        self.store.sync()
        self.assertEqual((self.store.deeds, self.store.settled_deeds), (1, 1))
        self.assertEqual(self.store.trace, (write(2, row(0, 0, 1, 0, cells(-1))), BARRIER))


class PushTest(unittest.TestCase):
    def setUp(self):
        self.store = fresh_store(2, 3, first_home(2))

    def events(self, call):
        before = len(self.store.trace)
        self.assertIsNone(call())
        return self.store.trace[before:]

    def test_push_with_no_running_deed(self):
        self.assertEqual(self.events(self.store.push), ())
        self.store.put({0: A})
        self.store.push()
        self.assertEqual(self.events(self.store.push), ())
        self.assertEqual((self.store.deeds, self.store.settled_deeds), (1, 0))

    def test_sync(self):
        self.assertEqual(self.events(self.store.sync), (BARRIER,))
        self.store.put({1: A})
        self.assertEqual(self.events(self.store.sync), (write(2, row(0, 0, 1, 1, A)), BARRIER))
        self.assertEqual((self.store.deeds, self.store.settled_deeds), (1, 1))
        self.assertEqual(self.events(self.store.sync), (BARRIER,))

    def test_lay_with_no_group_in_the_ring(self):
        self.assertEqual(self.events(self.store.lay), ())
        self.store.put({1: A})
        self.assertEqual(self.events(self.store.lay), ())
        self.assertEqual(self.store.home()[1], A)

    def test_lay(self):
        self.store.put({1: A})
        self.store.push()
        self.store.put({0: B, 1: C})
        self.store.push()
        laid = (BARRIER, write(5, B), write(6, C), BARRIER, write(1, (1, 2, 3)), BARRIER)
        self.assertEqual(self.events(self.store.lay), laid)
        self.assertEqual((self.store.groups, self.store.deeds, self.store.settled_deeds), ((), 2, 2))
        self.assertEqual(self.events(self.store.lay), ())
        self.store.put({0: D})
        self.assertEqual(self.events(self.store.push), (write(2, row(2, 0, 1, 0, D)),))
        self.assertEqual(self.store.groups, ((2, 3, ((0, D),)),))
        laid = (BARRIER, write(5, D), BARRIER, write(0, (2, 3, 4)), BARRIER)
        self.assertEqual(self.events(self.store.lay), laid)

    def test_the_running_group_stays_at_a_lay(self):
        self.store.put({0: A})
        self.store.push()
        self.store.put({0: B, 1: B})
        self.assertEqual(self.events(self.store.lay), (BARRIER, write(5, A), BARRIER, write(1, (1, 1, 1)), BARRIER))
        self.assertEqual((self.store.deeds, self.store.settled_deeds, self.store.home()), (2, 1, {0: B, 1: B}))
        self.assertEqual(self.events(self.store.push), (write(3, row(1, 0, 2, 0, B)), write(4, row(1, 1, 2, 1, B))))

    def test_push_that_must_lay_first(self):
        self.store.put({0: A, 1: A})
        self.store.sync()
        self.store.put({0: B})
        self.store.push()
        self.store.put({1: C})
        self.assertEqual(self.store.settled_deeds, 1)
        self.assertEqual(self.events(self.store.push), (
            BARRIER, write(5, B), write(6, A), BARRIER, write(1, (1, 2, 3)), BARRIER, write(2, row(2, 0, 1, 1, C)),
        ))
        self.assertEqual((self.store.deeds, self.store.settled_deeds), (3, 2))
        self.assertEqual(self.store.groups, ((2, 3, ((1, C),)),))

    def test_push_into_the_last_slots_lays_nothing(self):
        self.store.put({0: A, 1: A})
        self.store.push()
        self.store.put({0: B})
        self.assertEqual(self.events(self.store.push), (write(4, row(1, 0, 1, 0, B)),))

    def test_put_that_pushes_and_lays(self):
        store = fresh_store(2, 1, first_home(2))
        store.put({0: A})
        store.push()
        store.put({0: B})
        store.put({1: C})
        laid = (BARRIER, write(3, A), BARRIER, write(1, (1, 1, 1)), BARRIER)
        self.assertEqual(store.trace, (write(2, row(0, 0, 1, 0, A)),) + laid + (write(2, row(1, 0, 1, 0, B)),))
        self.assertEqual((store.deeds, store.settled_deeds, store.home()), (3, 1, {0: B, 1: C}))

    def test_behind_each_step_of_drawn_rows(self):
        draw = random.Random(11)
        for _ in range(150):
            follower = drawn_store(draw)
            for _ in range(10):
                follower.drawn_call(draw)
                store = follower.store
                self.assertEqual(store.deeds, len(follower.homes) - 1)
                self.assertEqual(store.settled_deeds, follower.settled)
                self.assertEqual(store.home(), follower.homes[-1])
                self.assertEqual(sum(len(changes) for _, _, changes in store.groups), follower.in_ring)
                told, disk = disk_after(store.begin, store.trace, len(store.trace)), store.disk()
                self.assertEqual((disk.settled, disk.loose), (told.settled, told.loose))


class OpeningTest(unittest.TestCase):
    def test_with_no_group_in_the_ring(self):
        store = open_store(fresh_store(2, 3, first_home(2)).disk(), plates=2, slots=3)
        self.assertEqual(store.trace, (BARRIER, write(1, (1, 0, 0)), BARRIER))
        self.assertEqual((store.deeds, store.settled_deeds, store.groups, store.home()), (0, 0, (), first_home(2)))

    def test_with_groups_in_the_ring(self):
        first = Follower(fresh_store(3, 4, first_home(3)))
        for changes in ({2: A}, {0: B, 2: C}, {0: D}):
            first.put(changes)
            first.push()
        disk = first.store.disk().fallen({2: 1, 3: 1, 4: 1, 5: -1})
        store = open_store(disk, 3, 4)
        self.assertIs(store.begin, disk)
        self.assertEqual(store.trace, (write(6, B), write(8, C), BARRIER, write(1, (1, 2, 3)), BARRIER))
        self.assertEqual((store.deeds, store.settled_deeds, store.groups), (0, 0, ()))
        self.assertEqual(store.home(), first.homes[2])
        self.assertEqual(store.disk().loose, ())
        self.assertEqual(open_store(first.store.disk().fallen({2: -1, 3: 1, 4: 1, 5: 1}), 3, 4).trace, (
            BARRIER, write(1, (1, 3, 0)), BARRIER,
        ))

    def test_opened_twice_is_the_same_home(self):
        draw = random.Random(12)
        for _ in range(100):
            store = drawn_store(draw).store
            disk = store.disk()
            disk.barrier()
            once = open_store(disk, store.plates, store.slots)
            twice = open_store(once.disk(), store.plates, store.slots)
            self.assertEqual(once.home(), Store(store.plates, store.slots, disk).home())
            self.assertEqual(twice.home(), once.home())
            self.assertEqual([event[0] for event in twice.trace], ["barrier", "write", "barrier"])

    def test_how_many_writes_and_barriers(self):
        draw = random.Random(13)
        for _ in range(100):
            store = drawn_store(draw).store
            disk = store.disk()
            disk.barrier()
            groups = Store(store.plates, store.slots, disk).groups
            unlike = {plate for _, _, changes in groups for plate, _ in changes}
            words = [event[0] for event in open_store(disk, store.plates, store.slots).trace]
            self.assertEqual(words.count("write"), len(unlike) + 1)
            self.assertEqual(words.count("barrier"), 2)


if __name__ == "__main__":
    unittest.main()
