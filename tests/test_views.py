"""[53]: views of whole moments."""

import random
import unittest

from drawn import Caller
from systems import SystemCase, path

from plugproof.calls import done
from plugproof.plain import Plain
from plugproof.readings import met, named_files
from plugproof.shape import Shape

NO_VIEWS = (-1, 8, 99, True, False, None, "0", (0,), [0], {}, 0.0)


class ViewsCase(SystemCase):
    SHAPE = Shape(10, 12, 8, 60, 3)

    def setUp(self):
        self.begin()
        self.all_ok(("make", 0, path("/d")), ("make", 0, path("/d/e")), ("make", 0, path("/found/k")), ("create", 2, path("/found/l")))
        self.written(1, "/a", 100)
        self.written(2, "/d/b", 9)
        self.ok("link", 0, path("/a"), path("/d/c"))

    def seen(self, user, number, call=None):
        """All that a view shows, as a list of answers to calls on it."""
        words = {"list": "view_list", "tell": "view_tell", "read": "view_read"}
        told = []
        for thing in ((), ("found",), ("a",), ("d",), ("d", "b"), ("d", "c"), ("d", "e"), ("found", "k"), ("found", "l"), ("x",), ("a", "x"),
                      ("A",), ["d", "b"]):
            told += [done(self.system, (words[word], user, number, thing)) for word in words]
        return told


class NumbersTest(ViewsCase):
    def test_the_least_free_one(self):
        self.assertEqual([self.ok("view", user) for user in (0, 1, 2, 0)], [0, 1, 2, 3])
        self.all_ok(("end_view", 1, 1), ("end_view", 0, 0))
        self.assertEqual([self.ok("view", user) for user in (2, 2, 2)], [0, 1, 4])
        self.assertEqual(sorted(self.system.views.known), [0, 1, 2, 3, 4])

    def test_eight(self):
        for number in range(8):
            self.assertEqual(self.ok("view", number % 3), number)
        for user in range(3):
            self.no("views", "view", user)
        self.ok("end_view", 2, 5)
        self.assertEqual(self.ok("view", 0), 5)
        self.no("views", "view", 0)

    def test_another_user_s_view(self):
        self.all_ok(("view", 1), ("view", 2))
        for user, number in ((0, 0), (0, 1), (1, 1), (2, 0), (1, 2)):
            for word in ("view_list", "view_read", "view_tell"):
                for thing in (("a",), ("nix",), None, ()):
                    self.no("view", word, user, number, thing)
            self.no("view", "end_view", user, number)

    def test_no_such_view(self):
        self.ok("view", 0)
        for number in NO_VIEWS + (1,):
            for word in ("view_list", "view_read", "view_tell"):
                for thing in (("a",), ("nix",), None, ()):
                    self.no("view", word, 0, number, thing)
            self.no("view", "end_view", 0, number)
        self.assertIsNone(self.ok("end_view", 0, 0))
        self.no("view", "end_view", 0, 0)
        self.no("view", "view_list", 0, 0, ())


class RefusalsTest(ViewsCase):
    def test_those_of_the_moment(self):
        self.ok("view", 0)
        self.all_ok(("unlink", 0, path("/a")), ("create", 0, path("/new")), ("remove", 0, path("/d/e")), ("make", 0, path("/a")),
                    ("create", 0, path("/a/x")), ("move", 0, path("/d"), path("/z")))
        for thing in (None, "a", ("A",), ("a", "found"), ("x", "B")):
            for word in ("view_list", "view_read", "view_tell"):
                self.no("path", word, 0, 0, thing)
        for thing in (("new",), ("z",), ("z", "b"), ("d", "x"), ("found", "a")):
            for word in ("view_list", "view_read", "view_tell"):
                self.no("missing", word, 0, 0, thing)
        for thing in (("a", "x"), ("d", "c", "e"), ("found", "l", "x")):
            for word in ("view_list", "view_read", "view_tell"):
                self.no("nodir", word, 0, 0, thing)
        for thing in (("a",), ("d", "b"), ("found", "l")):
            self.no("nodir", "view_list", 0, 0, thing)
        for thing in ((), ("found",), ("d",), ("d", "e"), ("found", "k"), []):
            self.no("isdir", "view_read", 0, 0, thing)

    def test_answers(self):
        self.ok("view", 1)
        self.assertEqual(self.ok("view_list", 1, 0, ()), (("a", "file"), ("d", "dir")))
        self.assertEqual(self.ok("view_list", 1, 0, ["d"]), (("b", "file"), ("c", "file"), ("e", "dir")))
        self.assertEqual(self.ok("view_list", 1, 0, path("/found")), (("k", "dir"), ("l", "file")))
        self.assertEqual(self.ok("view_read", 1, 0, path("/d/c")), tuple(range(1, 101)))
        self.assertEqual(self.ok("view_read", 1, 0, path("/found/l")), ())
        self.assertEqual(self.ok("view_tell", 1, 0, ()), ("dir", 2))
        self.assertEqual(self.ok("view_tell", 1, 0, path("/d/c")), ("file", 1, 6, 100, 2))


class MomentTest(ViewsCase):
    CHANGES = (
        (("open", 1, path("/a"), "write"), ("write", 1, 0, (9,) * 100), ("write", 1, 0, (9,) * 100)),
        (("open", 1, path("/a"), "write"), ("cut", 1, 0, 50), ("cut", 1, 0, 0), ("cut", 1, 0, 600), ("write", 1, 0, (5,) * 200)),
        (("unlink", 0, path("/a")), ("unlink", 0, path("/d/c")), ("create", 0, path("/a")), ("open", 0, path("/a"), "write"),
         ("write", 0, 0, (7,) * 250)),
        (("move", 0, path("/d"), path("/z")), ("move", 0, path("/a"), path("/d")), ("move", 0, path("/z/b"), path("/d")),
         ("make", 0, path("/a")), ("create", 0, path("/found/q"))),
        (("remove", 0, path("/d/e")), ("unlink", 0, path("/d/b")), ("unlink", 0, path("/d/c")), ("remove", 0, path("/d")),
         ("unlink", 0, path("/found/l")), ("remove", 0, path("/found/k"))),
        (("copy", 0, path("/d"), path("/u")), ("give", 0, path("/a"), 2), ("link", 0, path("/a"), path("/v"))),
        (("open", 1, path("/a"), "write"), ("unlink", 0, path("/a")), ("unlink", 0, path("/d/c")), ("shut", 1, 0),
         ("create", 1, path("/n")), ("open", 1, path("/n"), "write"), ("write", 1, 0, (3,) * 200)),
    )

    def test_it_shows_its_moment_behind_whatever_others_do(self):
        for calls in self.CHANGES:
            self.setUp()
            self.ok("view", 2)
            first = self.seen(2, 0)
            for call in calls:
                self.ok(*call)
                self.assertEqual(self.seen(2, 0), first, call)
            self.ok("view", 2)
            self.assertNotEqual(self.seen(2, 1), first)
            self.assertEqual(self.seen(2, 0), first)

    def test_each_of_two_shows_its_own(self):
        self.ok("view", 0)
        first = self.seen(0, 0)
        number = self.opened(1, "/a")
        self.ok("write", 1, number, (7,))
        self.ok("view", 0)
        second = self.seen(0, 1)
        self.ok("cut", 1, number, 0)
        self.assertEqual((self.seen(0, 0), self.seen(0, 1)), (first, second))
        self.ok("end_view", 0, 0)
        self.assertEqual(self.seen(0, 1), second)


class BlocksTest(ViewsCase):
    def test_blocks_come_back_with_the_last_view_that_reads_them(self):
        free = self.system.free_many()
        self.all_ok(("view", 0), ("unlink", 0, path("/a")), ("view", 1), ("unlink", 0, path("/d/c")), ("view", 2))
        self.assertEqual(self.system.free_many(), free)
        self.ok("end_view", 0, 0)
        self.assertEqual(self.system.free_many(), free)
        self.ok("end_view", 1, 1)
        self.assertEqual(self.system.free_many(), free + 16)
        self.ok("unlink", 0, path("/d/b"))
        self.ok("end_view", 2, 2)
        self.assertEqual(self.system.free_many(), 60)

    def test_a_block_that_others_lead_to_stays(self):
        self.all_ok(("view", 0), ("copy", 0, path("/a"), path("/e")), ("unlink", 0, path("/a")), ("unlink", 0, path("/d/c")), ("end_view", 0, 0))
        self.assertEqual(self.ok("tell", 0, path("/e"))[3], 100)
        self.assertEqual(self.root()[1][5], tuple(range(1, 101)))

    def test_files_without_names_are_not_read(self):
        self.all_ok(("open", 1, path("/a"), "write"), ("unlink", 0, path("/a")), ("unlink", 0, path("/d/c")), ("view", 0))
        free = self.system.free_many()
        self.ok("write", 1, 0, (7,))
        self.assertEqual(self.system.free_many(), free)
        self.ok("shut", 1, 0)
        self.assertEqual(self.system.free_many(), free + 16)

    def test_a_write_takes_another_block(self):
        self.ok("view", 0)
        free = self.system.free_many()
        number = self.opened(1, "/a")
        for _ in range(2):
            self.ok("seek", 1, number, 30)
            self.ok("write", 1, number, (7,))
            self.assertEqual(self.system.free_many(), free - 2)

    def test_full_by_what_only_a_view_reads(self):
        self.begin(Shape(2, 2, 2, 4, 1))
        self.written(0, "/a", 24)
        self.all_ok(("view", 0), ("unlink", 0, path("/a")))
        self.written(0, "/b", 8)
        number = self.opened(0, "/b", "append")
        self.no("full", "write", 0, number, (1,))
        self.ok("end_view", 0, 0)
        self.ok("write", 0, number, (1,))

    def test_no_block_is_written_or_taken(self):
        draw = random.Random(53)
        for _ in range(25):
            self.begin(Shape(draw.choice((4, 7)), 7, 5, draw.choice((20, 60)), 2))
            caller = Caller(draw)
            kept = {}
            for _ in range(120):
                done(self.system, caller.call(self.system, self.tree()))
                home = self.system.home()
                known = self.system.views.known
                kept = {number: kept[number] if number in kept and kept[number][0] is view else (view, self.blocks(home))
                        for number, view in known.items()}
                for _, blocks in kept.values():
                    self.assertEqual({plate: home[plate] for plate in blocks}, blocks)
                self.assertEqual(sorted(self.system.draft().pins), sorted({
                    plate - self.shape.first_block for _, blocks in kept.values() for plate in blocks
                }))

    def blocks(self, home):
        """The plates of the blocks met in the named files, and what stands on them."""
        plates = [self.shape.block_plate(block) for file in named_files(home, self.shape) for block in met(home, self.shape, file)]
        return {plate: home[plate] for plate in plates}


class PlainTest(unittest.TestCase):
    def test_moments(self):
        plain = Plain(2, 9)
        for call in (("make", 0, ("d",)), ("create", 1, ("d", "a")), ("view", 1), ("unlink", 0, ("d", "a")), ("view", 0)):
            self.assertEqual(done(plain, call)[0], "ok")
        self.assertEqual({number: pair[0] for number, pair in plain.moments.items()}, {0: 1, 1: 0})
        for call, answer in (
            (("view_list", 1, 0, ("d",)), ("ok", (("a", "file"),))), (("view_list", 0, 1, ("d",)), ("ok", ())),
            (("view_tell", 1, 0, ("d", "a")), ("ok", ("file", 1, 2, 0, 1))), (("view_read", 1, 0, ("d", "a")), ("ok", ())),
            (("view_read", 1, 0, ("d",)), ("no", "isdir")), (("view_list", 1, 1, ()), ("no", "view")), (("end_view", 0, 0), ("no", "view")),
            (("view_tell", 1, 0, None), ("no", "path")), (("end_view", 1, 0), ("ok", None)), (("view_list", 1, 0, ()), ("no", "view")),
        ):
            self.assertEqual(done(plain, call), answer, call)
        self.assertEqual(list(plain.moments), [1])


if __name__ == "__main__":
    unittest.main()
