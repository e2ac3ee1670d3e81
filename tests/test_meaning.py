"""[24] and [26]: what always holds, and how much at most."""

import random
import unittest

from plugproof.disk import disk_after
from plugproof.falls import fallen_disk, opened_deeds, written_groups
from plugproof.heads import is_head, read_head
from plugproof.log import is_log_plate, last_seen, read_groups
from plugproof.store import Store, fresh_store, open_store
from weavings import Follower, drawn_choice, drawn_store, first_home

BARRIER = ("barrier",)


def settled_at(store, moment):
    """The disk of a store behind so many events and one more barrier."""
    disk = disk_after(store.begin, store.trace, moment)
    disk.barrier()
    return disk


def meaning_at(store, moment):
    return Store(store.plates, store.slots, settled_at(store, moment)).home()


def kinds_of(store, disk):
    """The kinds of what is loose: "log", "home" and "head"."""
    kinds = set()
    for plate, value in disk.loose:
        if plate < 2:
            kinds.add("head" if is_head(plate, value) else "wrong")
        elif plate < 2 + store.slots:
            kinds.add("log" if is_log_plate(value) else "wrong")
        else:
            kinds.add("home")
    return kinds


class AlwaysTest(unittest.TestCase):
    def test_behind_each_call(self):
        draw = random.Random(31)
        for _ in range(200):
            follower = drawn_store(draw)
            for _ in range(8):
                follower.drawn_call(draw)
                store = follower.store
                self.assertEqual(meaning_at(store, len(store.trace)), follower.homes[follower.pushed])
                self.assertEqual(store.home(), follower.homes[-1])
                self.ring_is_right(store)

    def ring_is_right(self, store):
        disk = settled_at(store, len(store.trace))
        head = read_head(disk)
        self.assertEqual(read_groups(disk, store.slots, head), store.groups)
        slot = head[2]
        for count, (group, begin, changes) in enumerate(store.groups):
            self.assertEqual((group, begin), (head[1] + count, slot))
            slot += len(changes)
        self.assertLessEqual(slot - head[2], store.slots)
        self.assertLess(last_seen(disk, store.slots), head[1] + len(store.groups))

    def test_each_event_keeps_the_meaning_or_makes_the_next_one(self):
        draw = random.Random(32)
        for _ in range(200):
            follower = drawn_store(draw)
            store = follower.store
            behind = sorted({pushed for _, _, pushed, _ in follower.steps})
            for moment in range(len(store.trace) + 1):
                groups = written_groups(store, moment)
                self.assertEqual(meaning_at(store, moment), follower.homes[behind[groups]])
                if moment and groups > written_groups(store, moment - 1):
                    event = store.trace[moment - 1]
                    self.assertEqual(event[2][1], event[2][2] - 1)

    def test_what_is_loose_is_of_one_kind(self):
        draw = random.Random(33)
        for _ in range(200):
            store = drawn_store(draw).store
            for moment in range(len(store.trace) + 1):
                disk = disk_after(store.begin, store.trace, moment)
                plates = [plate for plate, _ in disk.loose]
                self.assertEqual(len(set(plates)), len(plates))
                kinds = kinds_of(store, disk)
                self.assertLessEqual(len(kinds), 1)
                if kinds == {"home"}:
                    self.loose_home_is_of_settled_groups(store, disk)
                if kinds == {"head"}:
                    self.assertEqual(len(plates), 1)
                    self.assertTrue(is_head(1 - plates[0], disk.settled[1 - plates[0]]))

    def loose_home_is_of_settled_groups(self, store, disk):
        before = disk.fallen({})
        groups = Store(store.plates, store.slots, before).groups
        last = {}
        for _, _, changes in groups:
            last.update(changes)
        for plate, value in disk.loose:
            self.assertEqual(last[plate - 2 - store.slots], value)

    def test_no_number_is_on_a_plate_that_can_be_read(self):
        draw = random.Random(34)
        for _ in range(200):
            store = drawn_store(draw).store
            for moment, event in enumerate(store.trace):
                if event[0] == "write" and is_log_plate(event[2]) and event[2][1] == 0:
                    self.assertLess(last_seen(settled_at(store, moment), store.slots), event[2][0])


class AtMostTest(unittest.TestCase):
    def test_events_of_each_call(self):
        draw = random.Random(35)
        for _ in range(200):
            follower = drawn_store(draw)
            store = follower.store
            least = min(store.plates, store.slots)
            most = {"put": (store.slots, 1), "push": (store.slots, 1), "sync": (store.slots, 1), "lay": (0, 0)}
            for step, (word, end, _, _) in enumerate(follower.steps[1:]):
                events = store.trace[follower.steps[step][1]:end]
                logs = [event for event in events if event[0] == "write" and is_log_plate(event[2])]
                self.assertLessEqual(len(logs), most[word][0])
                self.assertLessEqual(len({event[2][0] for event in logs}), most[word][1])
                laid = [event for event in events if event[0] == "write" and not is_log_plate(event[2])]
                self.assertLessEqual(len(laid), least + 1)
                self.assertLessEqual(events.count(BARRIER), 4 if word == "sync" else 3)

    def test_events_of_opening(self):
        draw = random.Random(36)
        for _ in range(200):
            store = drawn_store(draw).store
            disk = store.disk()
            late = open_store(disk.fallen(drawn_choice(draw, disk)), store.plates, store.slots)
            words = [event[0] for event in late.trace]
            self.assertLessEqual(words.count("write"), min(store.plates, store.slots) + 1)
            self.assertEqual(words.count("barrier"), 2)

    def test_loose_between_two_barriers(self):
        draw = random.Random(37)
        for _ in range(200):
            store = drawn_store(draw, most_calls=20).store
            for moment in range(len(store.trace) + 1):
                disk = disk_after(store.begin, store.trace, moment)
                self.assertLessEqual(len(disk.loose), store.slots)

    def test_numbers_of_heads_and_groups(self):
        draw = random.Random(38)
        for _ in range(100):
            plates, slots = draw.randint(1, 3), draw.randint(1, 4)
            follower = Follower(fresh_store(plates, slots, first_home(plates)))
            heads = groups = 0
            for _ in range(6):
                follower.drawn_calls(draw, 8)
                store = follower.store
                moment = draw.randint(0, len(store.trace))
                for event in store.trace[:moment]:
                    if event[0] == "write" and event[1] < 2:
                        heads += 1
                        self.assertLessEqual(event[2][0], heads)
                    if event[0] == "write" and is_log_plate(event[2]) and event[2][1] == 0:
                        self.assertLessEqual(event[2][0], groups)
                        groups += 1
                choice = drawn_choice(draw, disk_after(store.begin, store.trace, moment))
                home = follower.homes[opened_deeds(store, moment, choice)]
                follower = Follower(open_store(fallen_disk(store, moment, choice), plates, slots))
                self.assertEqual(follower.homes[0], home)


if __name__ == "__main__":
    unittest.main()
