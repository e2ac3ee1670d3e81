"""[20] to [23]: what comes up behind a fall, at every moment and for all choices."""

import random
import unittest

from plugproof.disk import disk_after
from plugproof.falls import can_open, choice_for, fallen_disk, opened_deeds, settled_groups, written_groups
from plugproof.store import fresh_store, open_store
from plugproof.storeerrors import BadChoice, BadMoment, BadPlate
from weavings import Follower, all_choices, cells, drawn_choice, drawn_store, first_home


def moments_of(store):
    return range(len(store.trace) + 1)


def opened(store, moment, choice):
    return open_store(fallen_disk(store, moment, choice), store.plates, store.slots)


def groups_by_the_trace(trace):
    """For each group of a trace the events of its log plates, told by the values written."""
    groups = {}
    for at, event in enumerate(trace):
        if event[0] == "write" and len(event[2]) == 12:
            groups.setdefault(event[2][0], []).append(at)
    return [groups[number] for number in sorted(groups)]


class CountsTest(unittest.TestCase):
    def test_written_and_settled_groups(self):
        store = fresh_store(2, 4, first_home(2))
        store.put({0: cells(1), 1: cells(2)})
        store.push()
        store.put({0: cells(3)})
        store.sync()
        store.put({1: cells(4)})
        store.push()
        self.assertEqual([written_groups(store, moment) for moment in moments_of(store)], [0, 0, 1, 2, 2, 3])
        self.assertEqual([settled_groups(store, moment) for moment in moments_of(store)], [0, 0, 0, 0, 2, 2])
        expected = [(0,), (0,), (0, 1), (0, 1, 2), (2,), (2, 3)]
        self.assertEqual([can_open(store, moment) for moment in moments_of(store)], expected)

    def test_a_group_of_several_deeds(self):
        store = fresh_store(1, 2, first_home(1))
        for number in range(3):
            store.put({0: cells(number)})
        self.assertEqual(can_open(store, 0), (0,))
        store.push()
        self.assertEqual([can_open(store, moment) for moment in moments_of(store)], [(0,), (0, 3)])
        self.assertEqual((opened_deeds(store, 1, {2: 1}), opened_deeds(store, 1, {2: 0})), (3, 0))

    def test_against_the_values_in_the_trace(self):
        draw = random.Random(21)
        for _ in range(60):
            store = drawn_store(draw).store
            groups = groups_by_the_trace(store.trace)
            for moment in moments_of(store):
                barriers = [at for at in range(moment) if store.trace[at] == ("barrier",)]
                last = barriers[-1] if barriers else -1
                self.assertEqual(written_groups(store, moment), len([at for at in groups if at[-1] < moment]))
                self.assertEqual(settled_groups(store, moment), len([at for at in groups if at[-1] < last]))

    def test_moments_that_are_none(self):
        store = fresh_store(1, 1, first_home(1))
        store.put({0: cells(1)})
        store.sync()
        calls = (
            written_groups, settled_groups, can_open, lambda store, moment: opened_deeds(store, moment, {}),
            lambda store, moment: choice_for(store, moment, 0), lambda store, moment: fallen_disk(store, moment, {}),
        )
        for call in calls:
            for moment in (-1, 3, True, None, "0", 1.0):
                with self.assertRaises(BadMoment) as caught:
                    call(store, moment)
                self.assertIs(caught.exception.many, moment)

    def test_deeds_that_cannot_come_up(self):
        store = fresh_store(1, 4, first_home(1))
        for number in range(4):
            store.put({0: cells(number)})
            if number % 2:
                store.push()
        self.assertEqual(can_open(store, 2), (0, 2, 4))
        for deeds in (1, 3, 5, -1, True, None, "0"):
            with self.assertRaises(BadMoment) as caught:
                choice_for(store, 2, deeds)
            self.assertIs(caught.exception.many, deeds)
        store.sync()
        self.assertEqual(choice_for(store, 3, 4), {})
        self.assertRaises(BadMoment, choice_for, store, 3, 2)

    def test_true_is_no_number_of_deeds(self):
        store = fresh_store(1, 4, first_home(1))
        store.put({0: cells(1)})
        store.push()
        self.assertEqual(choice_for(store, 1, 1), {2: 1})
        self.assertRaises(BadMoment, choice_for, store, 1, True)
        self.assertRaises(BadMoment, choice_for, store, 1, False)

    def test_fallen_disk(self):
        store = fresh_store(1, 2, first_home(1))
        store.put({0: cells(1)})
        store.push()
        self.assertEqual(fallen_disk(store, 1, {2: -1}).settled, ((0, 0, 0), (), None, (), cells(-1)))
        self.assertEqual(fallen_disk(store, 0, {}).settled, ((0, 0, 0), (), (), (), cells(-1)))
        for choice, plate in (({2: 2}, 2), ({5: 0}, 5), ({0: -1}, 0), ({True: 0}, True)):
            with self.assertRaises(BadChoice) as caught:
                fallen_disk(store, 1, choice)
            self.assertIs(caught.exception.plate, plate)

    def test_choice_for_is_the_versions_ahead_of_the_end(self):
        store = fresh_store(2, 4, first_home(2))
        store.put({0: cells(1), 1: cells(2)})
        store.push()
        store.put({0: cells(3)})
        store.push()
        self.assertEqual(choice_for(store, 3, 0), {})
        self.assertEqual(choice_for(store, 3, 1), {2: 1, 3: 1})
        self.assertEqual(choice_for(store, 3, 2), {2: 1, 3: 1, 4: 1})
        store.lay()
        late = len(store.trace) - 5
        self.assertEqual(store.trace[late][1], 6)
        self.assertEqual(choice_for(store, late + 2, 2), {})


class MainFactTest(unittest.TestCase):
    def follow(self, seed, many, **limits):
        draw = random.Random(seed)
        for _ in range(many):
            follower = drawn_store(draw, **limits)
            self.all_falls(draw, follower)

    def all_falls(self, draw, follower):
        store = follower.store
        for moment in moments_of(store):
            came = set()
            for choice in all_choices(disk_after(store.begin, store.trace, moment)):
                deeds = opened_deeds(store, moment, choice)
                late = opened(store, moment, choice)
                self.assertEqual(late.home(), follower.homes[deeds])
                came.add(deeds)
                if draw.random() < 0.05:
                    self.falls_within_opening(draw, late, follower.homes[deeds], 3)
            self.assertEqual(can_open(store, moment), tuple(sorted(came)))
            for deeds in came:
                choice = choice_for(store, moment, deeds)
                self.assertEqual(opened_deeds(store, moment, choice), deeds)
                self.assertEqual(opened(store, moment, choice).home(), follower.homes[deeds])
        self.never_below_what_is_settled(follower)

    def falls_within_opening(self, draw, store, home, depth):
        for moment in moments_of(store):
            self.assertEqual(can_open(store, moment), (0,))
            choice = drawn_choice(draw, disk_after(store.begin, store.trace, moment))
            late = opened(store, moment, choice)
            self.assertEqual(late.home(), home)
            if depth > 0 and draw.random() < 0.4:
                self.falls_within_opening(draw, late, home, depth - 1)

    def never_below_what_is_settled(self, follower):
        store = follower.store
        for step, (_, end, pushed, settled) in enumerate(follower.steps):
            self.assertEqual(can_open(store, end)[0], settled)
            self.assertEqual(can_open(store, end)[-1], pushed)
            begin = follower.steps[step - 1][1] if step else 0
            for moment in range(begin, end + 1):
                least = follower.steps[step - 1][3] if step else 0
                self.assertGreaterEqual(can_open(store, moment)[0], least)

    def test_small_stores_in_drawn_weavings(self):
        self.follow(22, 900, most_calls=16)

    def test_rings_of_one_and_two_slots_that_are_gone_round_often(self):
        self.follow(23, 300, most_slots=2, most_calls=30)

    def test_a_torn_group_whose_number_stands_in_the_ring(self):
        # Two groups, the first one torn: the second one's plate must not come to life later.
        follower = Follower(fresh_store(1, 3, first_home(1)))
        for number in (1, 2):
            follower.put({0: cells(number)})
            follower.push()
        late = Follower(open_store(follower.store.disk().fallen({2: -1, 3: 1}), 1, 3))
        self.assertEqual(late.homes[0], first_home(1))
        late.put({0: cells(5)})
        late.push()
        self.assertEqual(late.store.trace[-1][2][0], 2)
        self.all_falls(random.Random(24), late)

    def test_all_rows_of_five_calls_on_one_plate(self):
        calls = ("put", "push", "sync", "lay")
        draw = random.Random(25)
        for number in range(len(calls) ** 5):
            follower = Follower(fresh_store(1, 2, first_home(1)))
            for _ in range(5):
                word = calls[number % 4]
                number //= 4
                if word == "put":
                    follower.put({0: cells(len(follower.homes))})
                else:
                    getattr(follower, word)()
            self.all_falls(draw, follower)

    def test_falls_again_and_again_with_deeds_between(self):
        draw = random.Random(26)
        for _ in range(300):
            follower = drawn_store(draw)
            plates, slots = follower.store.plates, follower.store.slots
            for _ in range(12):
                moment = draw.choice(moments_of(follower.store))
                store = follower.store
                choice = drawn_choice(draw, disk_after(store.begin, store.trace, moment))
                home = follower.homes[opened_deeds(store, moment, choice)]
                follower = Follower(open_store(fallen_disk(store, moment, choice), plates, slots))
                self.assertEqual(follower.homes[0], home)
                follower.drawn_calls(draw, 6)

    def test_what_is_refused_leaves_no_events(self):
        store = fresh_store(1, 1, first_home(1))
        self.assertRaises(BadPlate, store.put, {1: cells(1)})
        store.sync()
        self.assertEqual([can_open(store, moment) for moment in moments_of(store)], [(0,), (0,)])


if __name__ == "__main__":
    unittest.main()
