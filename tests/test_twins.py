"""[14] to [16]: two disks that keep one store."""

import random
import unittest

from plugproof.disk import Disk, disk_after
from plugproof.store import Store, fresh_store, open_store
from plugproof.storeerrors import BadChoice, BadMoment, NoHead
from plugproof.twins import Twins, best_head, fallen_twins, fresh_twins, joined_disk, open_twins, opened_twins
from weavings import Follower, all_choices, cells, drawn_choice, first_home

A, B, C, D = cells(1), cells(2), cells(3), cells(4)
BARRIER = ("barrier",)


def write(plate, value):
    return "write", plate, value


def row(group, at, many, home, value):
    return (group, at, many, home) + value


def disk_of(*values):
    disk = Disk(len(values))
    for plate, value in enumerate(values):
        disk.write(plate, value)
    disk.barrier()
    return disk


class JoinedTest(unittest.TestCase):
    def test_best_head(self):
        self.assertEqual(best_head(disk_of((2, 5, 5), (1, 9, 9))), (2, 5, 5))
        self.assertEqual(best_head(disk_of(None, (1, 9, 9))), (1, 9, 9))
        for values in (((), ()), (None, None), ((1, 0, 0), (0, 0, 0)), ([0, 0, 0], (True, 0, 0))):
            self.assertIs(best_head(disk_of(*values)), None)

    def test_no_head(self):
        disks = (disk_of((), None, (), A), disk_of((1, 0, 0), (), (), A))
        for call in (joined_disk, Twins, open_twins):
            self.assertRaises(NoHead, call, disks, 1, 1)

    def test_both_count(self):
        left = disk_of((2, 3, 0), (1, 0, 0), row(3, 0, 1, 0, A), row(2, 0, 1, 0, D), None, A, None, None)
        right = disk_of((2, 3, 0), None, row(2, 9, 10, 0, D), row(4, 0, 1, 1, B), (), B, C, A[:7])
        joined = joined_disk((left, right), 3, 3)
        expected = ((2, 3, 0), (), row(3, 0, 1, 0, A), row(4, 0, 1, 1, B), (), A, C, None)
        self.assertEqual((joined.settled, joined.loose), (expected, ()))
        turned = joined_disk((right, left), 3, 3)
        self.assertEqual(turned.settled, expected[:5] + (B, C, A[:7]))

    def test_the_greatest_log_plate_as_tuples(self):
        for less, more in (
            (row(3, 0, 1, 0, A), row(4, 0, 1, 0, A)), (row(3, 0, 2, 0, A), row(3, 1, 2, 0, A)),
            (row(3, 0, 2, 0, B), row(3, 0, 3, 0, A)), (row(3, 0, 1, 0, B), row(3, 0, 1, 1, A)),
            (row(3, 0, 1, 0, A), row(3, 0, 1, 0, B)), (row(9, 1, 1, 0, A), row(3, 0, 1, 0, A)), (None, row(0, 0, 1, 0, A)),
        ):
            disks = [disk_of((0, 0, 0), (), value, D) for value in (less, more)]
            self.assertEqual(joined_disk(disks, 1, 1).settled[2], more)
            self.assertEqual(joined_disk(disks[::-1], 1, 1).settled[2], more)
        disks = [disk_of((0, 0, 0), (), value, D) for value in (None, list(row(3, 0, 1, 0, A)))]
        self.assertEqual(joined_disk(disks, 1, 1).settled[2], ())

    def test_one_counts(self):
        late = disk_of((2, 3, 0), (3, 4, 1), (), D)
        for head in ((2, 9, 9), (0, 0, 0), (), None):
            early = disk_of(head, (1, 8, 8), row(9, 0, 1, 0, A), A)
            for disks in ((early, late), (late, early)):
                self.assertEqual(joined_disk(disks, 1, 1).settled, ((), (3, 4, 1), (), D))

    def test_heads_of_one_number_are_told_apart_as_triples(self):
        for late in ((2, 4, 0), (2, 3, 1)):
            disks = (disk_of((2, 3, 0), (), (), A), disk_of(late, (), (), B))
            self.assertEqual(joined_disk(disks, 1, 1).settled, (late, (), (), B))

    def test_without_cells_the_first_value_of_those_that_count(self):
        disks = (disk_of((0, 0, 0), (), (), A), disk_of((2, 0, 0), (), (), "none"))
        self.assertEqual(joined_disk(disks, 1, 1).settled[3], "none")

    def test_the_disks_stay(self):
        disks = (disk_of((2, 3, 0), (), (), A), disk_of((), (), (), B))
        before = [disk.settled for disk in disks]
        twins = open_twins(disks, 1, 1)
        twins.store.put({0: C})
        twins.store.sync()
        self.assertEqual([disk.settled for disk in disks], before)
        self.assertEqual([disk.loose for disk in disks], [(), ()])


class OpenedTest(unittest.TestCase):
    def test_fresh_twins(self):
        twins = fresh_twins(plates=2, slots=2, home={0: A, 1: B})
        self.assertEqual((twins.plates, twins.slots, twins.ahead, twins.opening), (2, 2, ((), ()), 3))
        begin = fresh_store(2, 2, {0: A, 1: B}).disk().settled
        self.assertEqual([disk.settled for disk in twins.begins], [begin, begin])
        self.assertEqual(twins.store.trace, (BARRIER, write(1, (1, 0, 0)), BARRIER))
        self.assertEqual(twins.store.home(), {0: A, 1: B})
        self.assertIsNot(twins.begins[0], twins.begins[1])

    def test_the_store_is_that_of_the_joined_disk(self):
        disks = (
            disk_of((2, 3, 0), (), row(3, 0, 2, 0, A), (), D, D), disk_of((2, 3, 0), (), (), row(3, 1, 2, 1, B), D, D),
        )
        twins = Twins(disks=disks, plates=2, slots=2)
        self.assertIsInstance(twins, Twins)
        self.assertEqual(Twins(list(disks), 2, 2).begins, disks)
        self.assertIsInstance(open_twins(disks=disks, plates=2, slots=2), Twins)
        self.assertIs(twins.begins[0], disks[0])
        self.assertIs(twins.begins[1], disks[1])
        self.assertEqual(twins.store.begin.settled, joined_disk(disks, 2, 2).settled)
        self.assertEqual(twins.store.trace, open_store(joined_disk(disks, 2, 2), 2, 2).trace)
        self.assertEqual(twins.store.home(), {0: A, 1: B})
        self.assertEqual(twins.ahead, ((write(3, row(3, 1, 2, 1, B)), BARRIER), (write(2, row(3, 0, 2, 0, A)), BARRIER)))

    def test_ahead_of_disks_that_count(self):
        whole = (row(5, 0, 1, 0, D), row(2, 0, 2, 0, A), row(2, 1, 2, 1, B), row(3, 0, 1, 0, C))
        full = disk_of((4, 2, 1), (), *whole, D, D)
        lacks = disk_of((4, 2, 1), (3, 1, 1), (), None, whole[2], row(1, 0, 1, 0, D), D, D)
        twins = open_twins((full, lacks), 2, 4)
        # Group 5 is not whole one after another, so nobody is given its plate.
        self.assertEqual(twins.ahead, ((), (write(3, whole[1]), write(5, whole[3]), BARRIER)))
        self.assertEqual(twins.store.trace, (write(6, C), write(7, B), BARRIER, write(1, (5, 6, 4)), BARRIER))
        self.assertEqual(twins.opening, 3 + 5)
        self.assertEqual(twins.trace(0), twins.store.trace)
        self.assertEqual(twins.trace(1), twins.ahead[1] + twins.store.trace)

    def test_ahead_of_a_disk_that_does_not_count(self):
        late = disk_of((), (3, 4, 1), (), row(4, 0, 1, 1, B), A, D)
        for early in (
            disk_of((2, 9, 9), (1, 0, 0), row(9, 0, 1, 0, D), None, D, D), Disk(6),
            disk_of((), (3, 4, 0), row(4, 0, 1, 1, B), (), A, B),
        ):
            expected = (
                write(0, ()), write(1, ()), BARRIER, write(2, ()), write(3, ()), write(4, A), write(5, B), BARRIER,
            )
            self.assertEqual(open_twins((late, early), 2, 2).ahead, ((), expected))
            twins = open_twins((early, late), 2, 2)
            self.assertEqual(twins.ahead, (expected, ()))
            self.assertEqual(twins.opening, len(expected) + 4)
            self.assertEqual(twins.store.trace, (write(5, B), BARRIER, write(0, (4, 5, 2)), BARRIER))

    def test_disk_at_while_the_shorter_row_waits(self):
        full = disk_of((0, 0, 0), (), row(0, 0, 1, 0, A), row(1, 0, 1, 1, B), D, D)
        lacks = disk_of((0, 0, 0), (), (), row(1, 0, 1, 1, B), D, D)
        twins = open_twins((lacks, full), 2, 2)
        self.assertEqual([len(events) for events in twins.ahead], [2, 0])
        twins.store.put({0: C})
        twins.store.push()
        self.assertEqual(twins.moments(), 2 + len(twins.store.trace))
        done = {0: range(0, twins.moments() + 1), 1: [0, 0] + list(range(0, len(twins.store.trace) + 1))}
        self.each_moment(twins, done)

    def test_disk_at_while_both_rows_ahead_are_unlike(self):
        left = disk_of((0, 0, 0), (), row(0, 0, 2, 0, A), (), (), D, D)
        right = disk_of((0, 0, 0), (), (), row(0, 1, 2, 1, B), row(1, 0, 1, 0, C), D, D)
        twins = open_twins((left, right), 2, 3)
        self.assertEqual([len(events) for events in twins.ahead], [3, 2])
        done = {0: range(0, twins.moments() + 1), 1: [0, 1, 2] + list(range(2, twins.moments()))}
        self.each_moment(twins, done)

    def each_moment(self, twins, done):
        for which in (0, 1):
            self.assertEqual(len(done[which]), twins.moments() + 1)
            for moment, events in enumerate(done[which]):
                told = disk_after(twins.begins[which], twins.trace(which), events)
                late = twins.disk_at(which, moment)
                self.assertEqual((late.settled, late.loose), (told.settled, told.loose))

    def test_moments_that_are_none(self):
        twins = fresh_twins(1, 1, {0: A})
        calls = (
            lambda moment: twins.disk_at(0, moment), lambda moment: twins.disk_at(1, moment),
            lambda moment: fallen_twins(twins, moment, ({}, None)), lambda moment: opened_twins(twins, moment, ({}, {})),
            lambda moment: fallen_twins(twins, moment, (None, {})),
        )
        for call in calls:
            for moment in (-1, 4, True, None, "0"):
                with self.assertRaises(BadMoment) as caught:
                    call(moment)
                self.assertIs(caught.exception.many, moment)

    def test_moments_go_on_and_opening_stays(self):
        twins = fresh_twins(1, 1, {0: A})
        twins.store.sync()
        self.assertEqual((twins.opening, twins.moments()), (3, 4))

    def test_fallen_twins(self):
        twins = fresh_twins(1, 1, {0: A})
        twins.store.put({0: B})
        twins.store.push()
        fallen = fallen_twins(twins, 4, ({2: 1}, {2: -1}))
        self.assertIsInstance(fallen, tuple)
        heads = ((0, 0, 0), (1, 0, 0))
        self.assertEqual([disk.settled for disk in fallen], [heads + (row(0, 0, 1, 0, B), A), heads + (None, A)])
        lost = fallen_twins(twins, 4, (None, {}))
        self.assertEqual([disk.settled for disk in lost], [((),) * 4, heads + ((), A)])
        self.assertEqual([disk.loose for disk in fallen + lost], [()] * 4)
        with self.assertRaises(BadChoice) as caught:
            fallen_twins(twins, 4, ({2: 1}, {3: 1}))
        self.assertEqual(caught.exception.plate, 3)

    def test_opened_twins(self):
        twins = fresh_twins(2, 4, {0: A, 1: A})
        twins.store.put({0: B, 1: B})
        twins.store.push()
        twins.store.put({0: C})
        twins.store.push()
        end = twins.moments()
        for choices, deeds in (
            (({}, {}), 0), (({2: 1}, {3: 1}), 1), (({2: 1, 4: 1}, {3: 1, 2: -1}), 2), (({2: 1, 4: 1}, {3: -1}), 0),
            (({2: 1, 3: 1}, None), 1), ((None, {2: 1, 3: 1, 4: 1}), 2), ((None, {3: 1, 4: 1}), 0),
            (({4: 1}, {2: 1, 3: 1, 4: -1}), 2), (({4: 1}, {2: 1, 3: 1, 4: 0}), 2), (({4: -1}, {2: 1, 3: 1}), 1),
        ):
            self.assertEqual(opened_twins(twins, end, choices), deeds)
        self.assertEqual(opened_twins(twins, end - 1, ({2: 1}, {3: 1})), 1)
        self.assertEqual(opened_twins(twins, end - 2, ({2: 1}, {2: 1})), 0)
        self.assertEqual([opened_twins(twins, moment, ({}, {})) for moment in range(4)], [0] * 4)
        twins.store.sync()
        self.assertEqual(opened_twins(twins, end + 1, ({}, None)), 2)


class MainFactTest(unittest.TestCase):
    def come_up(self, disks, plates, slots, home):
        """Twins of these disks, which must come up with this home, each of them alone, too."""
        twins = open_twins(disks, plates, slots)
        self.assertEqual(twins.store.home(), home)
        for which in (0, 1):
            alone = Store(plates, slots, twins.disk_at(which, twins.opening))
            self.assertEqual(alone.home(), home)
        return twins

    def fall(self, follower, twins, moment, choices):
        home = follower.homes[opened_twins(twins, moment, choices)]
        return self.come_up(fallen_twins(twins, moment, choices), twins.plates, twins.slots, home)

    def drawn_choices(self, draw, twins, moment):
        return [drawn_choice(draw, twins.disk_at(which, moment)) for which in (0, 1)]

    def drawn_moment(self, draw, twins):
        return draw.randint(twins.opening if draw.random() < 0.5 else 0, twins.moments())

    def test_all_choices_of_both_disks(self):
        draw = random.Random(41)
        for _ in range(300):
            plates, slots = draw.randint(1, 2), draw.randint(1, 3)
            twins = fresh_twins(plates, slots, first_home(plates))
            for _ in range(draw.randint(0, 2)):
                Follower(twins.store).drawn_calls(draw, 8)
                moment = self.drawn_moment(draw, twins)
                twins = open_twins(
                    fallen_twins(twins, moment, self.drawn_choices(draw, twins, moment)), plates, slots)
            follower = Follower(twins.store)
            follower.drawn_calls(draw, 8)
            self.all_falls(follower, twins)

    def all_falls(self, follower, twins):
        for moment in range(twins.moments() + 1):
            left, right = [all_choices(twins.disk_at(which, moment)) for which in (0, 1)]
            if len(left) * len(right) > 200:
                continue
            if moment >= twins.opening:
                left, right = left + [None], right + [None]
            for first in left:
                for second in right:
                    if first is not None or second is not None:
                        self.fall(follower, twins, moment, (first, second))

    def test_again_and_again(self):
        for seed in range(1200):
            draw = random.Random(seed)
            plates, slots = draw.randint(1, 3), draw.randint(1, 4)
            twins = fresh_twins(plates, slots, first_home(plates))
            for _ in range(10):
                follower = Follower(twins.store)
                follower.drawn_calls(draw, 8)
                moment = self.drawn_moment(draw, twins)
                choices = self.drawn_choices(draw, twins, moment)
                if moment >= twins.opening and draw.random() < 0.3:
                    choices[draw.randrange(2)] = None
                twins = self.fall(follower, twins, moment, choices)

    def test_falls_within_opening_again_and_again(self):
        for seed in range(500):
            draw = random.Random(1000 + seed)
            plates, slots = draw.randint(1, 3), draw.randint(1, 4)
            twins = fresh_twins(plates, slots, first_home(plates))
            follower = Follower(twins.store)
            follower.drawn_calls(draw, 12)
            moment = draw.randint(twins.opening, twins.moments())
            twins = self.fall(follower, twins, moment, self.drawn_choices(draw, twins, moment))
            home = twins.store.home()
            for _ in range(10):
                moment = draw.randint(0, twins.opening)
                choices = self.drawn_choices(draw, twins, moment)
                self.assertEqual(opened_twins(twins, moment, choices), 0)
                twins = self.come_up(fallen_twins(twins, moment, choices), plates, slots, home)

    def test_a_disk_that_was_away_and_comes_back_as_it_went(self):
        for seed in range(1200):
            draw = random.Random(2000 + seed)
            plates, slots = draw.randint(1, 3), draw.randint(1, 4)
            twins = fresh_twins(plates, slots, first_home(plates))
            for _ in range(3):
                follower = Follower(twins.store)
                follower.drawn_calls(draw, 10)
                moment = draw.randint(twins.opening, twins.moments())
                choices = self.drawn_choices(draw, twins, moment)
                which = draw.randrange(2)
                away = fallen_twins(twins, moment, choices)[which]
                choices[which] = None
                twins = self.alone_for_a_while(draw, self.fall(follower, twins, moment, choices), which, away)

    def alone_for_a_while(self, draw, twins, which, away):
        for _ in range(draw.randint(1, 3)):
            follower = Follower(twins.store)
            follower.drawn_calls(draw, 6)
            moment = draw.randint(twins.opening, twins.moments())
            choices = self.drawn_choices(draw, twins, moment)
            choices[which] = None
            disks = list(fallen_twins(twins, moment, choices))
            disks[which] = away
            home = follower.homes[opened_twins(twins, moment, choices)]
            back = self.come_up(disks, twins.plates, twins.slots, home)
            twins = self.fall(follower, twins, moment, choices)
        return back

    def test_a_disk_that_goes_with_the_next_head(self):
        # It has the head that the other one gets only when it is opened alone.
        twins = fresh_twins(1, 2, {0: A})
        follower = Follower(twins.store)
        follower.put({0: B})
        follower.push()
        follower.lay()
        moment = twins.moments() - 1
        left, right = fallen_twins(twins, moment, ({0: -1}, {0: 1}))
        self.assertGreater(best_head(right), best_head(left))
        alone = self.come_up((left, Disk(5)), 1, 2, {0: B})
        self.assertEqual(best_head(alone.disk_at(0, alone.opening)), best_head(right))
        self.come_up((alone.disk_at(0, alone.opening), right), 1, 2, {0: B})
        alone.store.put({0: C})
        alone.store.sync()
        self.come_up((alone.disk_at(0, alone.moments()), right), 1, 2, {0: C})


if __name__ == "__main__":
    unittest.main()
