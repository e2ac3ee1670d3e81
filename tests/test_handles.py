"""[52]: handles and locks, of a system and of a plain one."""

import itertools
import unittest

from systems import SystemCase, path

from plugproof.calls import done
from plugproof.plain import Plain
from plugproof.shape import Shape

NO_HANDLES = (-1, 16, 99, True, False, None, "0", (0,), [0], {}, 0.0)
NO_NUMBERS = (-1, True, False, None, "1", (1,), [], 1.0)
NO_ROWS = (None, 5, True, "12", "", b"12", {1: 2}, range(3), (1, True), [1, True], ["1"], (1, None), ((1,),), (1.0,), {1, 2})
NO_MODES = ("", "r", "Read", None, 0, True, ("read",), ["read"], {}, b"read")
NO_KINDS = ("", "Shared", "alone ", None, 0, True, ("alone",), ["alone"], {})


class HandlesCase(SystemCase):
    SHAPE = Shape(5, 9, 6, 60, 3)

    def known(self):
        handles = self.system.handles.known
        return {number: (one.user, one.file, one.mode, one.at, one.kind) for number, one in handles.items()}


class OpenTest(HandlesCase):
    def setUp(self):
        self.begin()
        self.all_ok(("create", 1, path("/a")), ("make", 0, path("/d")), ("create", 2, path("/d/b")))

    def test_numbers(self):
        self.assertEqual([self.opened(0, "/a", mode) for mode in ("read", "write", "append", "read")], [0, 1, 2, 3])
        self.all_ok(("shut", 0, 1), ("shut", 0, 2))
        self.assertEqual([self.opened(1, "/d/b", "read"), self.opened(0, "/a"), self.opened(2, "/a", "read")], [1, 2, 4])
        self.assertEqual(self.known(), {
            0: (0, 0, "read", 0, ""), 1: (1, 1, "read", 0, ""), 2: (0, 0, "write", 0, ""), 3: (0, 0, "read", 0, ""),
            4: (2, 0, "read", 0, ""),
        })

    def test_paths_can_be_lists(self):
        self.ok("open", 2, ["d", "b"], "append")
        self.assertEqual(self.known(), {0: (2, 1, "append", 0, "")})

    def test_refusals(self):
        modes = ("read", "write", None)
        for mode in modes:
            for word, thing in (("path", ("A",)), ("path", "a"), ("missing", ("x",)), ("missing", ("x", "y")), ("nodir", ("a", "y")),
                                ("isdir", ("d",)), ("isdir", ()), ("isdir", ("found",))):
                self.no(word, "open", 2, thing, mode)
        for mode in NO_MODES:
            for user in range(3):
                self.no("mode", "open", user, path("/a"), mode)
        for mode in ("write", "append"):
            self.no("denied", "open", 2, path("/a"), mode)
            self.no("denied", "open", 1, path("/d/b"), mode)

    def test_who_opens_what(self):
        for user, text, mode in ((0, "/a", "write"), (1, "/a", "append"), (0, "/d/b", "append"), (2, "/d/b", "write"), (2, "/a", "read")):
            self.ok("open", user, path(text), mode)

    def test_a_gift(self):
        self.ok("give", 0, path("/a"), 2)
        self.no("denied", "open", 1, path("/a"), "write")
        number = self.opened(2, "/a")
        self.ok("give", 0, path("/a"), 1)
        self.ok("write", 2, number, (1,))

    def test_sixteen(self):
        for number in range(16):
            self.assertEqual(self.opened(number % 3, "/a", "read"), number)
        for user in range(3):
            self.no("handles", "open", user, path("/a"), "read")
        self.test_refusals()
        self.ok("shut", 1, 7)
        self.assertEqual(self.opened(2, "/d/b"), 7)
        self.no("handles", "open", 2, path("/d/b"), "write")


class HandleTest(HandlesCase):
    """Who has which handle is asked ahead of all else."""

    def setUp(self):
        self.begin()
        self.all_ok(("create", 1, path("/a")), ("open", 1, path("/a"), "read"), ("open", 2, path("/a"), "read"), ("lock", 2, 1, "alone"))

    def test_no_such_handle(self):
        for word, things in (("read", (1, -1)), ("write", ((1,), None, ())), ("seek", (0, -1)), ("cut", (0, -1, 601)),
                             ("lock", ("alone", None)), ("shut", (None,)), ("unlock", (None,))):
            for thing in things:
                rest = () if word in ("shut", "unlock") else (thing,)
                for number in NO_HANDLES + (2,):
                    self.no("handle", word, 1, number, *rest)
                for user, number in ((0, 0), (0, 1), (1, 1), (2, 0)):
                    self.no("handle", word, user, number, *rest)


class ReadTest(HandlesCase):
    def setUp(self):
        self.begin()
        self.written(1, "/a", 100)
        self.number = self.opened(2, "/a", "read")

    def at(self):
        return self.system.handles.known[self.number].at

    def test_on_and_on(self):
        self.assertEqual(self.ok("read", 2, self.number, 3), (1, 2, 3))
        self.assertEqual(self.ok("read", 2, self.number, 0), ())
        self.assertEqual((self.ok("read", 2, self.number, 30), self.at()), (tuple(range(4, 34)), 33))

    def test_fewer_at_the_end(self):
        self.ok("seek", 2, self.number, 95)
        self.assertEqual((self.ok("read", 2, self.number, 5), self.at()), ((96, 97, 98, 99, 100), 100))
        self.assertEqual((self.ok("read", 2, self.number, 5), self.at()), ((), 100))
        self.ok("seek", 2, self.number, 98)
        self.assertEqual((self.ok("read", 2, self.number, 10 ** 30), self.at()), ((99, 100), 100))

    def test_behind_the_end(self):
        for at in (101, 599, 600):
            self.ok("seek", 2, self.number, at)
            for many in (0, 1, 600):
                self.assertEqual((self.ok("read", 2, self.number, many), self.at()), ((), at))

    def test_behind_a_cut(self):
        self.ok("read", 2, self.number, 50)
        self.ok("cut", 1, self.opened(1, "/a"), 20)
        self.assertEqual((self.ok("read", 2, self.number, 9), self.at()), ((), 50))
        self.ok("seek", 2, self.number, 18)
        self.assertEqual(self.ok("read", 2, self.number, 9), (19, 20))

    def test_number(self):
        for many in NO_NUMBERS:
            self.no("number", "read", 2, self.number, many)

    def test_each_mode_can_read(self):
        for mode in ("read", "write", "append"):
            self.assertEqual(self.ok("read", 1, self.opened(1, "/a", mode), 2), (1, 2))

    def test_seek(self):
        for at in (0, 1, 100, 599, 600):
            self.assertIsNone(self.ok("seek", 2, self.number, at))
            self.assertEqual(self.at(), at)
        for at in NO_NUMBERS + (601, 10 ** 9):
            self.no("number", "seek", 2, self.number, at)


class WriteTest(HandlesCase):
    def setUp(self):
        self.begin()
        self.ok("create", 1, path("/a"))

    def numbers(self):
        return self.root()[0][5]

    def at(self, number):
        return self.system.handles.known[number].at

    def test_at_the_place_of_the_handle(self):
        number = self.opened(1, "/a")
        self.assertIsNone(self.ok("write", 1, number, (1, 2, 3)))
        self.ok("write", 1, number, [4, -5])
        self.assertEqual((self.numbers(), self.at(number)), ((1, 2, 3, 4, -5), 5))
        self.ok("seek", 1, number, 1)
        self.ok("write", 1, number, (9,))
        self.assertEqual((self.numbers(), self.at(number)), ((1, 9, 3, 4, -5), 2))
        self.assertEqual(self.ok("read", 1, number, 9), (3, 4, -5))
        self.ok("seek", 1, number, 7)
        self.ok("write", 1, number, (8,))
        self.assertEqual((self.numbers(), self.at(number)), ((1, 9, 3, 4, -5, 0, 0, 8), 8))

    def test_append(self):
        number, other = self.opened(1, "/a", "append"), self.opened(1, "/a")
        self.ok("write", 1, other, (1, 2, 3))
        self.ok("write", 1, number, (4, 5))
        self.assertEqual((self.numbers(), self.at(number), self.at(other)), ((1, 2, 3, 4, 5), 5, 3))
        self.ok("seek", 1, number, 0)
        self.assertEqual(self.ok("read", 1, number, 2), (1, 2))
        self.ok("write", 1, number, (6,))
        self.assertEqual((self.numbers(), self.at(number)), ((1, 2, 3, 4, 5, 6), 6))
        self.ok("seek", 1, number, 600)
        self.ok("write", 1, number, (7,))
        self.assertEqual((self.numbers(), self.at(number)), ((1, 2, 3, 4, 5, 6, 7), 7))

    def test_no_numbers(self):
        for mode in ("write", "append"):
            number = self.opened(1, "/a", mode)
            for at in (0, 5, 600):
                self.ok("seek", 1, number, at)
                for numbers in ((), []):
                    self.assertIsNone(self.deeds(0, "write", 1, number, numbers))
                    self.assertEqual((self.numbers(), self.at(number)), ((), at))

    def test_number(self):
        for mode in ("write", "append", "read"):
            number = self.opened(1, "/a", mode)
            for numbers in NO_ROWS:
                self.no("number", "write", 1, number, numbers)
            for size in NO_NUMBERS:
                self.no("number", "cut", 1, number, size)

    def test_long(self):
        number, append = self.opened(1, "/a"), self.opened(1, "/a", "append")
        self.ok("cut", 1, number, 600)
        self.no("long", "write", 1, append, (1,))
        self.no("long", "write", 1, number, (1,) * 601)
        self.no("long", "cut", 1, number, 601)
        self.no("long", "cut", 1, number, 10 ** 30)
        for at, many in ((600, 0), (599, 1), (590, 10), (400, 200)):
            self.ok("seek", 1, number, at)
            self.no("long", "write", 1, number, (1,) * (many + 1))
            self.ok("write", 1, number, (1,) * many)
            self.assertEqual(self.at(number), 600)

    def test_cut(self):
        number = self.opened(1, "/a")
        self.ok("write", 1, number, tuple(range(1, 31)))
        for size in (30, 20, 25, 0, 7):
            self.assertIsNone(self.ok("cut", 1, number, size))
            self.assertEqual((len(self.numbers()), self.at(number)), (size, 30))
        self.assertEqual(self.numbers(), (0,) * 7)

    def test_mode(self):
        number = self.opened(1, "/a", "read")
        for numbers in ((), (1,), (1,) * 601):
            self.no("mode", "write", 1, number, numbers)
        for size in (0, 5, 601):
            self.no("mode", "cut", 1, number, size)
        self.ok("lock", 2, self.opened(2, "/a", "read"), "alone")
        self.no("mode", "write", 1, number, (1,))
        self.no("mode", "cut", 1, number, 1)

    def test_order_of_refusals(self):
        """Of number, mode, locked, long and full those that hold at once, the first one is told."""
        for bad, mode, locked, long, full in itertools.product((False, True), ("write", "read"), (False, True), (False, True), (False, True)):
            self.begin(Shape(2, 1, 1, 1 if full else 60, 3))
            self.ok("create", 1, path("/a"))
            number = self.opened(1, "/a", mode)
            if locked:
                self.ok("lock", 2, self.opened(2, "/a", "read"), "shared")
            words = [word for word, holds in (
                ("number", bad), ("mode", mode == "read"), ("locked", locked), ("long", long), ("full", full)) if holds]
            numbers = (1,) * (601 if long else 9) + ((True,) if bad else ())
            if words:
                self.no(words[0], "write", 1, number, numbers)
            else:
                self.ok("write", 1, number, numbers)
            words = [word for word in words if word != "full"]
            size = -1 if bad else 601 if long else 9
            if words:
                self.no(words[0], "cut", 1, number, size)
            else:
                self.ok("cut", 1, number, size)

    def test_a_full_disk(self):
        self.begin(Shape(2, 1, 1, 4, 1))
        self.ok("create", 0, path("/a"))
        number = self.opened(0, "/a")
        self.ok("write", 0, number, (7,) * 24)
        self.no("full", "write", 0, number, (1,))
        self.assertEqual(self.at(number), 24)
        self.ok("seek", 0, number, 23)
        self.no("full", "write", 0, number, (1, 2))
        self.ok("write", 0, number, (1,))
        self.ok("cut", 0, number, 600)


class LocksTest(HandlesCase):
    def setUp(self):
        self.begin()
        self.written(1, "/a", 9)
        self.written(1, "/b", 9)
        self.mine = [self.opened(1, "/a"), self.opened(1, "/a")]
        self.other = [self.opened(0, "/a"), self.opened(0, "/b")]
        self.third = self.opened(2, "/a", "read")

    def calls(self, number):
        return {"read": ("read", 1, number, 1), "write": ("write", 1, number, (1,)), "nothing": ("write", 1, number, ()),
                "cut": ("cut", 1, number, 9), "seek": ("seek", 1, number, 0), "shared": ("lock", 1, number, "shared"),
                "alone": ("lock", 1, number, "alone"), "unlock": ("unlock", 1, number)}

    def check(self, locked):
        for number in self.mine:
            for word, call in self.calls(number).items():
                if word in locked:
                    self.no("locked", *call)
                else:
                    self.ok(*call)
                self.ok("unlock", 1, number)

    def test_no_lock(self):
        self.check(())

    def test_of_another_user(self):
        self.ok("lock", 0, self.other[0], "shared")
        self.check(("write", "nothing", "cut", "alone"))
        self.ok("lock", 0, self.other[0], "alone")
        self.check(("read", "write", "nothing", "cut", "shared", "alone"))
        self.ok("unlock", 0, self.other[0])
        self.check(())

    def test_of_another_file(self):
        self.ok("lock", 0, self.other[1], "alone")
        self.check(())

    def test_of_the_same_user_with_another_handle(self):
        for kind in ("shared", "alone"):
            own = self.opened(1, "/a", "read")
            self.ok("lock", 1, own, kind)
            self.check(())
            self.ok("lock", 1, self.mine[0], "alone")
            self.ok("lock", 1, self.mine[1], "shared")
            self.all_ok(("shut", 1, own), ("unlock", 1, self.mine[0]), ("unlock", 1, self.mine[1]))

    def test_one_in_the_place_of_another(self):
        for kinds in (("shared", "alone"), ("alone", "shared"), ("alone", "alone")):
            for kind in kinds:
                self.assertIsNone(self.ok("lock", 1, self.mine[0], kind))
                self.assertEqual(self.known()[self.mine[0]][4], kind)
        self.ok("lock", 1, self.mine[0], "shared")
        self.ok("lock", 0, self.other[0], "shared")
        self.no("locked", "lock", 1, self.mine[0], "alone")
        self.assertEqual(self.known()[self.mine[0]][4], "shared")
        self.ok("unlock", 1, self.mine[0])
        self.no("locked", "write", 1, self.mine[0], (1,))
        self.ok("lock", 0, self.other[0], "alone")

    def test_unlock_without_a_lock(self):
        self.assertIsNone(self.ok("unlock", 1, self.mine[0]))
        self.assertEqual(self.known()[self.mine[0]][4], "")

    def test_a_shut_handle_has_none(self):
        self.ok("lock", 2, self.third, "alone")
        self.check(("read", "write", "nothing", "cut", "shared", "alone"))
        self.ok("shut", 2, self.third)
        self.check(())
        self.assertEqual(self.opened(2, "/a", "read"), self.third)
        self.check(())

    def test_a_gift_changes_no_lock(self):
        self.ok("lock", 2, self.third, "alone")
        self.ok("give", 0, path("/a"), 2)
        self.check(("read", "write", "nothing", "cut", "shared", "alone"))

    def test_two_readers(self):
        self.ok("lock", 1, self.mine[0], "shared")
        self.ok("lock", 0, self.other[0], "shared")
        self.ok("lock", 2, self.third, "shared")
        for user, number in ((1, self.mine[0]), (0, self.other[0]), (2, self.third)):
            self.no("locked", "lock", user, number, "alone")
            self.ok("read", user, number, 1)

    def test_kind_comes_ahead_of_locked(self):
        for _ in range(2):
            for kind in NO_KINDS:
                self.no("kind", "lock", 1, self.mine[0], kind)
            self.ok("lock", 0, self.other[0], "alone")
        self.no("locked", "lock", 1, self.mine[0], "shared")

    def test_number_comes_ahead_of_locked(self):
        self.ok("lock", 0, self.other[0], "alone")
        for call in (("read", 1, self.mine[0], -1), ("write", 1, self.mine[0], (True,)), ("cut", 1, self.mine[0], -1)):
            self.no("number", *call)

    def test_locks_bind_calls_on_handles_alone(self):
        self.ok("lock", 1, self.mine[0], "alone")
        self.all_ok(("view", 0), ("view_read", 0, 0, path("/a")), ("copy", 0, path("/a"), path("/c")),
                    ("move", 0, path("/a"), path("/d")), ("unlink", 0, path("/d")))


class ShutTest(HandlesCase):
    def test_a_file_without_rows_lives_on_with_its_handles(self):
        self.written(1, "/a", 100)
        numbers = [self.opened(1, "/a"), self.opened(2, "/a", "read"), self.opened(0, "/a", "append")]
        self.ok("unlink", 0, path("/a"))
        self.assertEqual((self.root(), self.system.free_many()), ((), 44))
        self.ok("write", 0, numbers[2], (7,))
        self.assertEqual(self.ok("read", 2, numbers[1], 1), (1,))
        self.deeds(0, "shut", 1, numbers[0])
        self.deeds(0, "shut", 0, numbers[2])
        self.assertEqual((self.system.free_many(), len(self.ok("read", 2, numbers[1], 600))), (44, 100))
        clock = self.system.home()[0][0]
        self.deeds(1, "shut", 2, numbers[1])
        self.assertEqual((self.system.free_many(), self.system.home()[0][0]), (60, clock))
        self.assertEqual((self.known(), self.system.used(self.system.home())), ({}, []))

    def test_a_file_with_rows_stays(self):
        self.written(1, "/a", 9)
        self.ok("link", 0, path("/a"), path("/b"))
        number = self.opened(1, "/a")
        self.ok("unlink", 0, path("/a"))
        self.deeds(0, "shut", 1, number)
        self.assertEqual(self.root()[0][5], tuple(range(1, 10)))

    def test_a_file_that_has_a_name_again(self):
        self.written(1, "/a", 9)
        number = self.opened(1, "/a")
        self.all_ok(("link", 0, path("/a"), path("/b")), ("unlink", 0, path("/a")), ("unlink", 0, path("/b")), ("shut", 1, number))
        self.assertEqual(self.system.free_many(), 60)

    def test_an_empty_file_without_rows(self):
        self.ok("create", 1, path("/a"))
        number = self.opened(1, "/a")
        self.ok("unlink", 0, path("/a"))
        self.deeds(1, "shut", 1, number)
        self.assertEqual(self.system.home()[self.shape.file_plate(0)], (0,) * 8)


class PlainTest(unittest.TestCase):
    """A plain system has the same handles."""

    def test_known(self):
        plain = Plain(3, 60)
        for call in (("create", 1, ("a",)), ("open", 1, ("a",), "write"), ("write", 1, 0, (1, 2)), ("open", 0, ("a",), "append"),
                     ("lock", 0, 1, "shared"), ("seek", 0, 1, 1)):
            self.assertEqual(done(plain, call)[0], "ok")
        known = {number: dict(vars(handle)) for number, handle in plain.handles.known.items()}
        file = list(plain.files)[0]
        self.assertEqual(known, {
            0: {"user": 1, "file": file, "mode": "write", "at": 2, "kind": ""},
            1: {"user": 0, "file": file, "mode": "append", "at": 1, "kind": "shared"},
        })

    def test_refusals(self):
        plain = Plain(3, 60)
        for call in (("create", 1, ("a",)), ("open", 1, ("a",), "write"), ("open", 2, ("a",), "read"), ("lock", 2, 1, "alone")):
            self.assertEqual(done(plain, call)[0], "ok")
        for word, call in (
            ("denied", ("open", 2, ("a",), "append")), ("mode", ("open", 2, ("a",), "x")), ("handle", ("read", 0, 0, 1)),
            ("number", ("read", 1, 0, -1)), ("locked", ("read", 1, 0, 1)), ("locked", ("write", 1, 0, ())), ("mode", ("cut", 2, 1, 0)),
            ("kind", ("lock", 1, 0, "x")), ("locked", ("lock", 1, 0, "shared")), ("number", ("seek", 1, 0, 601)), ("handle", ("shut", 1, 5)),
        ):
            self.assertEqual(done(plain, call), ("no", word), call)
        for number in range(2, 16):
            self.assertEqual(done(plain, ("open", 0, ("a",), "read")), ("ok", number))
        self.assertEqual(done(plain, ("open", 0, ("a",), "read")), ("no", "handles"))


if __name__ == "__main__":
    unittest.main()
