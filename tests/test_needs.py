"""[57]: what is free, and what calls need."""

import random
import unittest

from drawn import Caller
from homes import home_with
from systems import SystemCase, path, watched

from plugproof.calls import done
from plugproof.errors import Refused
from plugproof.names import found_at, row_found
from plugproof.needs import Room, free_room, need_of_copy, need_of_cut, need_of_write
from plugproof.readings import row_at, size_at, tree_of
from plugproof.shape import Shape


class RoomTest(unittest.TestCase):
    def test_attributes_and_told(self):
        room = Room(4, 3, 2, 1)
        self.assertEqual((room.blocks, room.dirs, room.rows, room.files), (4, 3, 2, 1))
        self.assertEqual(room.told(), (4, 3, 2, 1))
        self.assertEqual(Room(files=1, rows=2, dirs=3, blocks=4).told(), (4, 3, 2, 1))

    def test_equal(self):
        self.assertTrue(Room(4, 3, 2, 1) == Room(4, 3, 2, 1))
        self.assertFalse(Room(4, 3, 2, 1) != Room(4, 3, 2, 1))
        for at in range(4):
            numbers = [4, 3, 2, 1]
            numbers[at] += 1
            self.assertFalse(Room(4, 3, 2, 1) == Room(*numbers))
        for other in ((4, 3, 2, 1), None, 4, Shape(4, 3, 2, 1, 1)):
            self.assertFalse(Room(4, 3, 2, 1) == other)

    def test_is_enough(self):
        need = Room(4, 3, 2, 1)
        self.assertIs(need.is_enough(need), True)
        for at in range(4):
            for more in (-1, 1):
                numbers = [4, 3, 2, 1]
                numbers[at] += more
                self.assertIs(Room(*numbers).is_enough(need), more == 1)
                self.assertIs(need.is_enough(Room(*numbers)), more == -1)
        self.assertIs(Room(9, 9, 9, 0).is_enough(need), False)
        self.assertIs(Room(0, 0, 0, 0).is_enough(Room(0, 0, 0, 0)), True)


class FreeRoomTest(SystemCase):
    SHAPE = Shape(5, 7, 6, 30, 2)

    def free(self):
        return free_room(self.system).told()

    def test_of_an_empty_home(self):
        self.assertEqual(free_room(self.system), Room(30, 3, 7, 6))

    def test_behind_calls(self):
        self.ok("make", 0, path("/d"))
        self.written(0, "/d/a", 30)
        self.assertEqual(self.free(), (25, 2, 6, 5))
        self.ok("link", 0, path("/d/a"), path("/found/b"))
        self.assertEqual(self.free(), (25, 2, 5, 5))
        self.ok("copy", 0, path("/d"), path("/c"))
        self.assertEqual(self.free(), (25, 1, 4, 4))

    def test_open_files_that_no_name_leads_to(self):
        self.written(0, "/a", 30)
        number = self.opened(0, "/a")
        self.ok("unlink", 0, path("/a"))
        self.assertEqual(self.free(), (25, 3, 7, 5))
        self.ok("shut", 0, number)
        self.assertEqual(self.free(), (30, 3, 7, 6))

    def test_blocks_that_only_a_view_reads(self):
        self.written(0, "/a", 30)
        self.all_ok(("view", 0), ("unlink", 0, path("/a")))
        self.assertEqual(self.free(), (25, 3, 7, 6))
        self.ok("end_view", 0, 0)
        self.assertEqual(self.free(), (30, 3, 7, 6))

    def test_cells_that_are_free_by_numbers_below_1(self):
        home = home_with(self.SHAPE, {3: (0, "a")}, {2: (0, "b", 4)})
        home[1] = (7, 7, -4) + home[1][3:]
        self.begin(home=home)
        self.assertEqual(self.free(), (30, 2, 6, 5))


class NeedsTest(SystemCase):
    SHAPE = Shape(12, 20, 20, 100, 2)

    def file(self, text):
        return row_at(self.system.home(), self.shape, row_found(self.system.home(), self.shape, path(text)))[2]

    def write_need(self, text, start, many):
        need = need_of_write(self.system, self.file(text), start, many)
        self.assertEqual(need.told()[1:], (0, 0, 0))
        return need.blocks

    def cut_need(self, text, size):
        need = need_of_cut(self.system, self.file(text), size)
        self.assertEqual(need.told()[1:], (0, 0, 0))
        return need.blocks

    def test_copies(self):
        self.all_ok(("make", 0, path("/d")), ("make", 0, path("/d/e")), ("make", 0, path("/d/e/f")), ("create", 0, path("/d/a")))
        self.all_ok(("link", 0, path("/d/a"), path("/d/e/b")), ("link", 0, path("/d/a"), path("/d/e/c")), ("create", 0, path("/g")))
        for text, told in (("/d", (0, 3, 3, 3)), ("/d/e", (0, 2, 2, 2)), ("/d/e/f", (0, 1, 0, 0)), ("/g", (0, 0, 1, 1)), ("/d/a", (0, 0, 1, 1))):
            kind, number = found_at(self.system.home(), self.shape, path(text))
            self.assertEqual(need_of_copy(self.system, kind, number).told(), told)

    def test_writes_into_holes_at_each_level(self):
        self.ok("create", 0, path("/a"))
        for start, many, need in ((0, 1, 1), (7, 1, 1), (7, 2, 2), (0, 24, 3), (0, 25, 5), (24, 1, 2), (24, 9, 3), (24, 64, 9), (24, 65, 12),
                                  (87, 1, 2), (88, 1, 3), (88, 64, 10), (88, 65, 12), (599, 1, 3), (592, 8, 3), (0, 600, 85), (50, 0, 0), (600, 0, 0)):
            self.assertEqual(self.write_need("/a", start, many), need, (start, many))
        self.ok("write", 0, self.opened(0, "/a"), (1,) * 100)
        for start, many, need in ((0, 100, 0), (99, 5, 0), (100, 4, 0), (100, 5, 1), (104, 48, 6), (104, 49, 8), (599, 1, 2)):
            self.assertEqual(self.write_need("/a", start, many), need, (start, many))

    def test_writes_over_what_is_shared(self):
        self.written(0, "/a", 160)
        self.ok("copy", 0, path("/a"), path("/b"))
        for start, many, need in ((0, 1, 1), (0, 24, 3), (24, 1, 2), (24, 64, 9), (88, 1, 3), (87, 2, 5), (152, 8, 3), (151, 2, 5), (160, 1, 3)):
            self.assertEqual(self.write_need("/a", start, many), need, (start, many))
        # Behind the size: the blocks of pointers that keep a part and lose one come first.
        self.assertEqual(self.write_need("/a", 592, 8), 4)
        self.ok("write", 0, self.opened(0, "/a"), (7,) * 160)
        self.assertEqual((self.write_need("/a", 0, 160), self.write_need("/b", 0, 160)), (0, 0))

    def test_writes_over_pinned_ones(self):
        self.written(0, "/a", 20)
        self.ok("view", 0)
        self.assertEqual([self.write_need("/a", start, 1) for start in (0, 8, 20, 23, 24)], [1, 1, 1, 1, 2])
        self.ok("end_view", 0, 0)
        self.assertEqual([self.write_need("/a", start, 1) for start in (0, 8, 20, 23, 24)], [0, 0, 0, 0, 2])

    def test_growing_first(self):
        self.written(0, "/a", 24)
        number = self.opened(0, "/a")
        self.ok("cut", 0, number, 18)
        self.ok("copy", 0, path("/a"), path("/b"))
        # Numbers that are not 0 stand behind the size: they become 0 in a block of the file's own.
        self.assertEqual((self.cut_need("/a", 19), self.cut_need("/a", 18), self.write_need("/a", 19, 1), self.write_need("/a", 40, 1)), (1, 0, 1, 3))
        self.written(0, "/c", 18)
        self.ok("copy", 0, path("/c"), path("/d"))
        self.assertEqual((self.cut_need("/c", 19), self.write_need("/c", 40, 1)), (0, 2))

    def test_cuts(self):
        self.written(0, "/a", 160)
        self.assertEqual([self.cut_need("/a", size) for size in (0, 30, 100, 160, 600)], [0] * 5)
        self.ok("copy", 0, path("/a"), path("/b"))
        for size, need in ((160, 2), (159, 2), (153, 2), (152, 1), (145, 1), (144, 2), (96, 2), (89, 2), (88, 0), (87, 0), (80, 1), (25, 1), (24, 0), (9, 0),
                           (0, 0), (161, 2), (600, 2)):
            self.assertEqual(self.cut_need("/a", size), need, size)
        self.ok("unlink", 0, path("/b"))
        self.assertEqual(self.cut_need("/a", 90), 0)
        self.ok("view", 0)
        self.assertEqual(self.cut_need("/a", 90), 2)

    def test_a_cut_that_keeps_all_parts_there_are(self):
        self.begin(Shape(2, 4, 4, 200, 2))
        self.written(0, "/a", 600)
        self.ok("copy", 1, path("/a"), path("/b"))
        for size, need in ((600, 0), (593, 0), (592, 2), (585, 2), (584, 2), (544, 2), (536, 1)):
            self.assertEqual(self.cut_need("/b", size), need, size)
            free = self.system.free_many()
            self.begin(self.shape, home=self.system.home())
            number = self.opened(1, "/b")
            self.ok("cut", 1, number, size)
            self.assertEqual(self.system.free_many(), free - need)
            self.all_ok(("unlink", 0, path("/b")), ("copy", 1, path("/a"), path("/b")), ("shut", 1, number))
            self.assertEqual(self.system.free_many(), free)

    def test_sizes_beyond_the_greatest(self):
        self.ok("create", 0, path("/a"))
        self.assertEqual(self.cut_need("/a", 601), 0)
        self.assertEqual(self.write_need("/a", 599, 9), 3)


class ExactTest(unittest.TestCase):
    """In homes that calls made of an empty one, full is told exactly if there is too little room."""

    def need(self, system, call):
        """The need of a call, None if it has none, or if its path leads nowhere."""
        word, user, things = call[0], call[1], call[2:]
        if word in ("make", "create", "link"):
            return {"make": Room(0, 1, 0, 0), "create": Room(0, 0, 1, 1), "link": Room(0, 0, 1, 0)}[word]
        if word == "copy":
            try:
                kind, number = found_at(system.home(), system.shape, things[0])
            except Refused:
                return None
            return need_of_copy(system, kind, number)
        if word not in ("write", "cut") or things[0] not in system.handles.known:
            return None
        handle = system.handles.known[things[0]]
        if word == "cut":
            return need_of_cut(system, handle.file, things[1])
        start = size_at(system.home(), system.shape, handle.file) if handle.mode == "append" else handle.at
        return need_of_write(system, handle.file, start, len(things[1]))

    def test_drawn_calls(self):
        told = {}
        for seed in range(40):
            draw = random.Random(seed)
            shape = Shape(*draw.choice(((4, 6, 5, 20, 2), (7, 4, 5, 40, 2), (6, 9, 3, 60, 2), (7, 12, 10, 90, 2))))
            system = watched(shape)
            caller = Caller(draw, 2, sizes=(1, 9, 40, 80), odd=0, places=(0, 7, 24, 30, 88, 100, 160, 300, 590))
            for _ in range(250):
                call = caller.call(system, tree_of(system.home(), shape))
                need, room = self.need(system, call), free_room(system)
                answer = done(system, call)
                if need is None or answer[0] == "no" and answer[1] not in ("full", "quota"):
                    continue
                self.assertIs(room.is_enough(need), answer != ("no", "full"), call)
                told[call[0], answer[1] == "full"] = told.get((call[0], answer[1] == "full"), 0) + 1
        for word in ("make", "create", "link", "copy", "write"):
            for full in (True, False):
                self.assertGreater(told[word, full], 10, (word, full))

    def last(self, draw):
        """Calls on three files, with copies and views among them, and one more call."""
        calls = []
        for name in "ab":
            calls += [("create", 0, (name,)), ("open", 0, (name,), "write")]
        for _ in range(draw.randint(1, 9)):
            number = draw.randrange(2)
            kind = draw.random()
            if kind < 0.45:
                calls.append(("seek", 0, number, draw.choice((0, 20, 24, 50, 88, 150, 152, 300, 590))))
                calls.append(("write", 0, number, (5,) * draw.choice((1, 9, 80, 10))))
            elif kind < 0.65:
                calls.append(("cut", 0, number, self.size(draw)))
            elif kind < 0.85:
                calls.append(("copy", 0, ("ab"[number],), ("c" + "abcdefghi"[len(calls) % 9] + "ab"[draw.randrange(2)],)))
            else:
                calls.append(("view", 0) if draw.random() < 0.7 else ("end_view", 0, 0))
        number = draw.randrange(2)
        if draw.random() < 0.4:
            return calls, ("cut", 0, number, self.size(draw))
        calls.append(("seek", 0, number, self.size(draw)))
        return calls, ("write", 0, number, (6,) * draw.choice((1, 8, 30)))

    def size(self, draw):
        return draw.choice((0, 18, 24, 25, 50, 88, 89, 90, 150, 152, 153, 160, 320, 560, draw.randint(0, 570)))

    def system_with(self, calls, free=None):
        """A system behind some calls, in which but so many blocks are free then; None if fewer are."""
        system = watched(Shape(2, 60, 40, 200, 2))
        for call in calls:
            done(system, call)
        at = 0
        while free is not None and system.free_many() > free:
            more = system.free_many() - free
            name = ("z" + "abcdefghijklmnopqrstuvwxyz"[at % 26] + "abc"[at // 26],)
            done(system, ("create", 1, name))
            number = done(system, ("open", 1, name, "write"))[1]
            numbers = (9,) * (600 if more >= 85 else 8 * min(3, more))
            self.assertEqual(done(system, ("write", 1, number, numbers)), ("ok", None))
            done(system, ("shut", 1, number))
            at += 1
        return system if free is None or system.free_many() == free else None

    def test_just_enough_and_one_less(self):
        """A write or cut behind drawn calls on a disk where as many blocks are free as it needs, and one less."""
        needs = {}
        draw = random.Random(58)
        for _ in range(250):
            calls, last = self.last(draw)
            need = self.need(self.system_with(calls), last)
            if done(self.system_with(calls), last) in (("no", "long"), ("no", "full")):
                continue
            enough = self.system_with(calls, need.blocks)
            self.assertEqual(self.need(enough, last), need)
            self.assertIn(done(enough, last), (("ok", None), ("no", "quota")))
            if need.blocks > 0:
                self.assertEqual(done(self.system_with(calls, need.blocks - 1), last), ("no", "full"), (calls, last))
            needs[last[0], need.blocks] = needs.get((last[0], need.blocks), 0) + 1
        self.assertGreater(needs["cut", 1] + needs["cut", 2], 10)
        self.assertGreater(len(needs), 8)


if __name__ == "__main__":
    unittest.main()
