"""[51]: the calls on names, with each refusal, and which of two is told."""

import unittest

from systems import SystemCase, path

from plugproof.calls import done
from plugproof.readings import clock_at, limit_at
from plugproof.shape import Shape, name_of

# What cannot be a path, and paths by the words by which they are refused as places and as what they lead to.
NO_PATHS = ("a", None, 7, ("A",), ("a", ""), ("a", "found"), ("found", "found"), ("aaaaa",), ("a", 1), (("a",),), {"a": 1}, b"a")
MISSING_UP = ("nix", "x")
ROW_UP = ("f", "x")


class DeedsCase(SystemCase):
    SHAPE = Shape(12, 14, 10, 40, 3)

    def setUp(self):
        self.begin()
        self.all_ok(
            ("make", 0, path("/a")), ("make", 0, path("/a/b")), ("make", 1, path("/e")), ("create", 1, path("/f")),
            ("create", 2, path("/a/g")), ("make", 0, path("/found/k")), ("create", 0, path("/found/l")),
        )

    def full(self):
        """No directory, row or file is free any more."""
        for word, things in (("make", ()), ("create", ()), ("link", (("f",),))):
            names = [name_of(number) for number in range(100, 120)]
            answers = [done(self.system, (word, 0) + things + (("found", word[0] + name),)) for name in names]
            self.assertEqual((answers[0][0], answers[-1]), ("ok", ("no", "full")))

    def place_refusals(self, *call):
        """Each refusal of place_of, for a call whose last thing is a path."""
        for thing in NO_PATHS + (["a", "B"], ("nix", "B"), ("f", "B")):
            self.no("path", *call, thing)
        for thing in ((), [], ("found",), ["found"]):
            self.no("root", *call, thing)
        for thing in (MISSING_UP, ("a", "nix", "x"), ("found", "nix", "x"), ("nix", "nix", "nix"), ("nix", "f", "x"), ["nix", "x"]):
            self.no("missing", *call, thing)
        for thing in (ROW_UP, ("a", "g", "x"), ("found", "l", "x"), ("f", "nix", "nix"), ["f", "x"]):
            self.no("nodir", *call, thing)

    def found_refusals(self, *call):
        """Each refusal of found_at, for a call of which these are the first words, with what stands behind."""
        word, user, rest = call
        for thing in NO_PATHS + (("nix", "B"), ("f", "B")):
            self.no("path", word, user, thing, *rest)
        for thing in (("nix",), MISSING_UP, ("found", "nix"), ("a", "nix"), ("b",), ("found", "a"), ("nix", "f", "x")):
            self.no("missing", word, user, thing, *rest)
        for thing in (ROW_UP, ("a", "g", "x"), ("found", "l", "k"), ("f", "nix", "nix")):
            self.no("nodir", word, user, thing, *rest)

    def row_refusals(self, *call):
        word, user, rest = call
        self.found_refusals(*call)
        for thing in ((), ("found",), [], ("a",), ("a", "b"), ("found", "k")):
            self.no("isdir", word, user, thing, *rest)


class MakeAndCreateTest(DeedsCase):
    def test_refusals(self):
        for word in ("make", "create"):
            self.place_refusals(word, 0)
            for thing in (("a",), ("f",), ("a", "b"), ("a", "g"), ("found", "k"), ["found", "l"]):
                self.no("exists", word, 0, thing)

    def test_full_comes_last(self):
        self.full()
        for word in ("make", "create"):
            self.test_refusals()
            self.no("full", word, 0, ("x",))
            self.no("full", word, 2, ("found", "x"))

    def test_what_comes_of_it(self):
        self.ok("make", 2, ["a", "b", "c"])
        self.ok("create", 2, ("found", "found"[:4]))
        self.assertEqual(self.root()[0], ("a", "dir", (("b", "dir", (("c", "dir", ()),)), ("g", "file", 0, 2, 5, ()))))
        self.assertEqual(self.tree()[1][2], ("foun", "file", 3, 2, 9, ()))

    def test_full_of_each_kind(self):
        for numbers, calls in (
            ((3, 9, 9, 1, 1), [("make", 0, ("a",)), ("make", 0, ("b",))]),
            ((9, 1, 9, 1, 1), [("create", 0, ("a",)), ("create", 0, ("b",))]),
            ((9, 9, 1, 1, 1), [("create", 0, ("a",)), ("create", 0, ("b",))]),
            ((9, 1, 9, 1, 1), [("create", 0, ("a",)), ("link", 0, ("a",), ("b",))]),
            ((9, 1, 9, 1, 1), [("create", 0, ("a",)), ("copy", 0, ("a",), ("b",))]),
            ((9, 9, 1, 1, 1), [("create", 0, ("a",)), ("copy", 0, ("a",), ("b",))]),
            ((3, 9, 9, 1, 1), [("make", 0, ("a",)), ("copy", 0, ("a",), ("b",))]),
            ((9, 9, 9, 1, 1), [("create", 0, ("a",)), ("open", 0, ("a",), "write"), ("write", 0, 0, (1,) * 9)]),
            ((9, 9, 2, 1, 1), [("create", 0, ("a",)), ("open", 0, ("a",), "write"), ("unlink", 0, ("a",)), ("create", 0, ("b",)),
                               ("create", 0, ("c",))]),
        ):
            self.begin(Shape(*numbers))
            self.all_ok(*calls[:-1])
            self.no("full", *calls[-1])
        self.begin(Shape(2, 1, 1, 1, 1))
        self.no("full", "make", 0, ("a",))
        self.ok("create", 0, ("a",))

    def test_a_file_without_a_name_that_is_open_is_in_use(self):
        self.begin(Shape(2, 9, 2, 9, 1))
        self.written(0, "/a", 3)
        number = self.opened(0, "/a")
        self.ok("unlink", 0, path("/a"))
        self.ok("create", 0, path("/b"))
        self.assertEqual(self.system.used(self.system.home()), [0, 1])
        self.no("full", "create", 0, path("/c"))
        self.ok("shut", 0, number)
        self.ok("create", 0, path("/c"))
        self.assertEqual(self.root(), (("b", "file", 0, 0, 4, ()), ("c", "file", 1, 0, 5, ())))


class LinkTest(DeedsCase):
    def test_refusals(self):
        self.row_refusals("link", 0, (("x",),))
        self.place_refusals("link", 0, ("f",))
        for thing in (("a",), ("f",), ("found", "l")):
            self.no("exists", "link", 0, ("f",), thing)

    def test_those_of_the_old_path_come_first(self):
        for late in ("b", (), MISSING_UP, ROW_UP, ("a",), ("x",)):
            self.row_refusals("link", 0, (late,))

    def test_full_comes_last(self):
        self.full()
        self.test_refusals()
        self.test_those_of_the_old_path_come_first()
        self.no("full", "link", 0, ("f",), ("x",))

    def test_and_unlink_of_one_of_two_names(self):
        self.written(1, "/w", 20)
        self.ok("link", 0, path("/w"), path("/a/v"))
        self.assertEqual(self.ok("tell", 0, path("/a/v")), ("file", 1, 9, 20, 2))
        self.ok("unlink", 2, path("/w"))
        self.assertEqual((self.system.free_many(), self.ok("tell", 0, path("/a/v"))), (37, ("file", 1, 9, 20, 1)))
        self.no("missing", "tell", 0, path("/w"))
        self.ok("unlink", 2, path("/a/v"))
        self.assertEqual(self.system.free_many(), 40)


class UnlinkTest(DeedsCase):
    def test_refusals(self):
        self.row_refusals("unlink", 0, ())

    def test_blocks_come_back_in_the_same_deed(self):
        self.written(0, "/w", 200)
        free = self.system.free_many()
        self.deeds(1, "unlink", 0, path("/w"))
        self.assertEqual((free, self.system.free_many()), (40 - 29, 40))
        self.assertEqual(self.system.home()[self.shape.file_plate(3)], (0,) * 8)

    def test_of_a_file_that_is_open(self):
        self.written(0, "/w", 200)
        number = self.opened(0, "/w")
        self.ok("unlink", 0, path("/w"))
        self.assertEqual(self.system.free_many(), 40 - 29)
        self.assertEqual(self.ok("read", 0, number, 3), (1, 2, 3))
        self.ok("cut", 0, number, 8)
        self.assertEqual(self.system.free_many(), 39)
        self.deeds(1, "shut", 0, number)
        self.assertEqual(self.system.free_many(), 40)

    def test_of_a_copy_blocks_that_are_shared_stay(self):
        self.written(0, "/w", 30)
        self.ok("copy", 0, path("/w"), path("/v"))
        self.ok("unlink", 0, path("/w"))
        self.assertEqual(self.system.free_many(), 35)
        self.ok("unlink", 0, path("/v"))
        self.assertEqual(self.system.free_many(), 40)


class RemoveTest(DeedsCase):
    def test_refusals(self):
        self.found_refusals("remove", 0, ())
        for thing in (("f",), ("a", "g"), ("found", "l")):
            self.no("nodir", "remove", 0, thing)
        # Both of them hold something, which would be told behind it.
        for thing in ((), [], ("found",)):
            self.no("root", "remove", 0, thing)
        for thing in (("a",),):
            self.no("notempty", "remove", 0, thing)

    def test_root_and_found_if_they_are_empty(self):
        self.begin()
        self.no("root", "remove", 0, ())
        self.no("root", "remove", 0, ("found",))

    def test_what_comes_of_it(self):
        self.ok("remove", 2, path("/a/b"))
        self.ok("remove", 2, ["found", "k"])
        self.no("notempty", "remove", 0, path("/a"))
        self.ok("unlink", 0, path("/a/g"))
        self.ok("remove", 0, path("/a"))
        self.assertEqual([entry[0] for entry in self.root()], ["e", "f"])
        self.assertEqual([entry[0] for entry in self.tree()[1]], ["l"])

    def test_a_row_in_it_is_enough(self):
        self.ok("create", 0, path("/e/x"))
        self.no("notempty", "remove", 0, path("/e"))
        self.ok("unlink", 0, path("/e/x"))
        self.ok("make", 0, path("/e/x"))
        self.no("notempty", "remove", 0, path("/e"))


class MoveTest(DeedsCase):
    def test_refusals(self):
        self.found_refusals("move", 0, (("x",),))
        for old in ((), ("found",), []):
            self.no("root", "move", 0, old, ("x",))
        self.place_refusals("move", 0, ("f",))
        self.place_refusals("move", 0, ("a",))

    def test_those_of_the_old_path_come_first(self):
        for late in (None, (), MISSING_UP, ROW_UP, ("a",), ("f",), ("e",)):
            self.found_refusals("move", 0, (late,))
        for late in (None, (), ("found",), MISSING_UP, ROW_UP, ("a",), ("a", "b"), ("a", "x"), ("f",), ("found", "k")):
            for old in ((), ("found",)):
                self.no("root", "move", 0, old, late)

    def test_into_itself_and_beneath_itself(self):
        self.no("loop", "move", 0, ("a",), ("a", "x"))
        self.no("loop", "move", 0, ("a",), ("a", "b", "x"))
        self.no("loop", "move", 0, ("a", "b"), ("a", "b", "a"))
        self.no("loop", "move", 0, ("found", "k"), ["found", "k", "x"])

    def test_those_of_the_new_place_come_ahead_of_loop(self):
        for word, late in (("path", ("a", "B")), ("missing", ("a", "nix", "x")), ("nodir", ("a", "g", "x"))):
            self.no(word, "move", 0, ("a",), late)

    def test_loop_comes_ahead_of_what_stands_there(self):
        self.ok("make", 0, path("/a/b/c"))
        self.no("loop", "move", 0, ("a",), ("a", "b"))
        self.no("loop", "move", 0, ("a",), ("a", "g"))
        self.no("loop", "move", 0, ("a",), ("a", "b", "c"))

    def test_over_what_stands_there(self):
        self.no("isdir", "move", 0, ("f",), ("a",))
        self.no("isdir", "move", 0, ("f",), ("e",))
        self.no("isdir", "move", 0, ("a", "g"), ("a",))
        self.no("nodir", "move", 0, ("a",), ("f",))
        self.no("nodir", "move", 0, ("e",), ("a", "g"))
        self.no("notempty", "move", 0, ("e",), ("a",))
        self.no("notempty", "move", 0, ("a", "b"), ("a",))

    def test_the_very_place_where_it_stands(self):
        for thing in (("a",), ("a", "b"), ("f",), ["a", "g"], ("found", "k"), ("found", "l")):
            self.deeds(0, "move", 0, thing, tuple(thing))

    def test_to_a_place_where_nothing_stands(self):
        self.ok("move", 2, path("/a"), path("/e/z"))
        self.ok("move", 2, path("/f"), path("/found/f"))
        self.ok("move", 0, path("/found/k"), path("/k"))
        self.assertEqual(self.tree(), (
            (("e", "dir", (("z", "dir", (("b", "dir", ()), ("g", "file", 0, 2, 5, ()))),)), ("k", "dir", ())),
            (("f", "file", 1, 1, 4, ()), ("l", "file", 2, 0, 7, ())),
        ))

    def test_over_an_empty_directory(self):
        self.ok("move", 0, path("/a"), path("/e"))
        self.assertEqual(self.root()[0], ("e", "dir", (("b", "dir", ()), ("g", "file", 0, 2, 5, ()))))
        self.ok("move", 0, path("/e/b"), path("/found/k"))
        self.assertEqual([entry[0] for entry in self.tree()[1]], ["k", "l"])
        self.assertEqual(len(self.root()), 2)

    def test_over_a_file(self):
        self.written(0, "/w", 20)
        self.written(1, "/v", 9)
        self.ok("move", 2, path("/w"), path("/v"))
        self.assertEqual(self.root()[-1], ("v", "file", 2, 0, 9, tuple(range(1, 21))))
        self.assertEqual((len(self.root()), self.system.free_many()), (4, 37))
        self.ok("move", 2, path("/v"), path("/f"))
        self.assertEqual((len(self.root()), self.system.free_many()), (3, 37))
        self.ok("move", 0, path("/a/g"), path("/f"))
        self.assertEqual(self.system.free_many(), 40)

    def test_over_one_of_two_names(self):
        self.written(0, "/w", 20)
        self.ok("link", 0, path("/w"), path("/v"))
        self.ok("move", 0, path("/f"), path("/v"))
        self.assertEqual((self.ok("tell", 0, path("/w"))[-1], self.system.free_many()), (1, 37))

    def test_over_another_name_of_the_same_file(self):
        self.written(0, "/w", 20)
        self.ok("link", 0, path("/w"), path("/v"))
        self.deeds(1, "move", 0, path("/w"), path("/v"))
        self.no("missing", "tell", 0, path("/w"))
        self.assertEqual((self.ok("tell", 0, path("/v")), self.system.free_many()), (("file", 0, 9, 20, 1), 37))

    def test_over_the_last_name_of_a_file_that_is_open(self):
        self.written(0, "/w", 20)
        number = self.opened(0, "/w")
        self.ok("move", 0, path("/f"), path("/w"))
        self.assertEqual((self.system.free_many(), self.ok("read", 0, number, 2)), (37, (1, 2)))
        self.deeds(1, "shut", 0, number)
        self.assertEqual(self.system.free_many(), 40)

    def test_of_an_open_file(self):
        number = self.opened(1, "/f")
        self.ok("move", 0, path("/f"), path("/a/f"))
        self.ok("write", 1, number, (5,))
        self.assertEqual(self.ok("tell", 0, path("/a/f"))[3], 1)

    def test_on_a_full_disk(self):
        self.full()
        self.ok("move", 0, path("/a"), path("/x"))
        self.ok("move", 0, path("/f"), path("/x/g"))

    def test_names_that_are_alike_in_found(self):
        home = self.system.home()
        place = self.shape.dir_cell(9)
        plate = home[place[0]]
        home[place[0]] = plate[:place[1]] + (1 + 475254 + 10,) + plate[place[1] + 1:]
        self.begin(home=home)
        self.assertEqual(self.ok("list", 0, ("found",)), (("k", "dir"), ("k", "dir"), ("l", "file")))
        self.deeds(0, "move", 0, ("found", "k"), ("found", "k"))
        self.ok("move", 0, ("found", "k"), ("k",))
        self.ok("make", 0, ("k", "x"))
        self.ok("move", 0, ("found", "k"), ("e",))
        self.assertEqual([entry[0] for entry in self.tree()[1]], ["l"])


class CopyTest(DeedsCase):
    def test_refusals(self):
        self.found_refusals("copy", 0, (("x",),))
        for old in ((), ("found",), []):
            self.no("root", "copy", 0, old, ("x",))
        for old in (("f",), ("a",), ("found", "k")):
            self.place_refusals("copy", 0, old)
            for late in (("a",), ("f",), ("e",), ("found", "l")):
                self.no("exists", "copy", 0, old, late)

    def test_those_of_the_old_path_come_first(self):
        for late in (None, (), MISSING_UP, ROW_UP, ("a",), ("f",), ("e",)):
            self.found_refusals("copy", 0, (late,))
        for late in (None, (), ("found",), MISSING_UP, ROW_UP, ("a",), ("a", "b"), ("a", "x"), ("f",)):
            for old in ((), ("found",)):
                self.no("root", "copy", 0, old, late)

    def test_loop(self):
        for word, late in (("path", ("a", "B")), ("missing", ("a", "nix", "x")), ("nodir", ("a", "g", "x")), ("loop", ("a", "x")),
                           ("loop", ("a", "b")), ("loop", ("a", "g")), ("loop", ("a", "b", "x"))):
            self.no(word, "copy", 0, ("a",), late)
        self.no("exists", "copy", 0, ("a", "b"), ("a", "b"))
        self.ok("copy", 0, ("a", "b"), ("a", "c"))

    def test_full_comes_last(self):
        self.full()
        self.test_refusals()
        self.no("loop", "copy", 0, ("a",), ("a", "x"))
        self.no("full", "copy", 0, ("a",), ("x",))
        self.no("full", "copy", 0, ("f",), ("x",))

    def test_of_a_file(self):
        self.written(1, "/w", 20)
        self.ok("copy", 2, path("/w"), path("/found/v"))
        self.assertEqual(self.tree()[1][-1], ("v", "file", 4, 2, 10, tuple(range(1, 21))))
        self.assertEqual((self.system.free_many(), self.system.counts[:3]), (37, [2, 2, 2]))
        number = self.opened(0, "/w")
        self.ok("write", 0, number, (9,))
        self.assertEqual((self.tree()[1][-1][5], self.root()[-1][5][:3]), (tuple(range(1, 21)), (9, 2, 3)))

    def test_of_a_directory_with_two_names_of_one_file(self):
        self.written(1, "/a/w", 20)
        self.ok("link", 0, path("/a/w"), path("/a/b/v"))
        self.ok("link", 0, path("/a/w"), path("/u"))
        self.ok("copy", 2, path("/a"), path("/e/c"))
        numbers = tuple(range(1, 21))
        self.assertEqual(self.root()[1], ("e", "dir", (("c", "dir", (
            ("b", "dir", (("v", "file", 2, 2, 12, numbers),)), ("g", "file", 3, 2, 12, ()), ("w", "file", 4, 2, 12, numbers),
        )),)))
        self.assertEqual(self.ok("tell", 0, path("/u"))[-1], 3)
        self.assertEqual((self.system.free_many(), self.system.counts[:3]), (37, [3, 3, 3]))

    def test_of_an_empty_directory(self):
        self.ok("copy", 1, path("/e"), path("/found/e"))
        self.assertEqual(self.tree()[1][0], ("e", "dir", ()))

    def test_a_file_that_is_open_without_a_name_is_not_taken(self):
        number = self.opened(1, "/f")
        self.ok("unlink", 0, path("/f"))
        self.ok("copy", 0, path("/a"), path("/c"))
        self.ok("copy", 0, path("/a/g"), path("/d"))
        self.ok("write", 1, number, (1,))
        self.assertEqual([entry[5] for entry in self.root() if entry[1] == "file"], [()])


class ListAndTellTest(DeedsCase):
    def test_refusals(self):
        self.found_refusals("list", 0, ())
        self.found_refusals("tell", 0, ())
        for thing in (("f",), ("a", "g"), ("found", "l")):
            self.no("nodir", "list", 0, thing)

    def test_lists(self):
        self.ok("create", 0, path("/aa"))
        self.ok("make", 0, path("/ab"))
        self.ok("create", 0, path("/zzzz"))
        self.assertEqual(self.ok("list", 1, ()), (
            ("a", "dir"), ("aa", "file"), ("ab", "dir"), ("e", "dir"), ("f", "file"), ("zzzz", "file"),
        ))
        self.assertEqual(self.ok("list", 1, ["a"]), (("b", "dir"), ("g", "file")))
        self.assertEqual(self.ok("list", 1, ("found",)), (("k", "dir"), ("l", "file")))
        self.assertEqual(self.ok("list", 1, ("e",)), ())

    def test_tells(self):
        self.written(2, "/w", 9)
        self.ok("link", 0, path("/w"), path("/a/b/w"))
        self.ok("link", 0, path("/w"), path("/found/w"))
        told = {"/": ("dir", 4), "/found": ("dir", 3), "/a": ("dir", 2), "/a/b": ("dir", 1), "/e": ("dir", 0),
                "/f": ("file", 1, 4, 0, 1), "/w": ("file", 2, 9, 9, 3), "/a/b/w": ("file", 2, 9, 9, 3), "/found/l": ("file", 0, 7, 0, 1)}
        for text, answer in told.items():
            self.assertEqual(self.ok("tell", 1, path(text)), answer)


class GiveAndLimitTest(DeedsCase):
    NO_USERS = (-1, 3, True, None, "0", (0,))

    def test_refusals_of_give(self):
        for user in (0, 1):
            for owner in (1, -1, None):
                self.row_refusals("give", user, (owner,))
            for owner in self.NO_USERS:
                self.no("user", "give", user, ("f",), owner)
        for user in (1, 2):
            for owner in (0, 1, 2):
                self.no("denied", "give", user, ("f",), owner)

    def test_give(self):
        self.written(1, "/w", 9)
        for owner in (2, 2, 0, 1):
            self.ok("give", 0, path("/w"), owner)
            self.assertEqual(self.ok("tell", 0, path("/w")), ("file", owner, 9, 9, 1))

    def test_refusals_of_limit(self):
        for user in (0, 1):
            for other in self.NO_USERS:
                for many in (5, -1):
                    self.no("user", "limit", user, other, many)
            for many in (-1, 41, True, None, "5", ()):
                self.no("number", "limit", user, 1, many)
        for user in (1, 2):
            self.no("denied", "limit", user, user, 5)

    def test_limit(self):
        for many in (0, 40, 7, 7):
            self.ok("limit", 0, 2, many)
            self.assertEqual([limit_at(self.system.home(), self.shape, user) for user in range(3)], [40, 40, many])

    def test_sync_is_no_deed(self):
        self.deeds(0, "sync", 2)
        self.assertEqual(self.system.store.store.settled, 7)


class ClockTest(DeedsCase):
    """`ok` looks whether the clock goes on by 1 with each deed, but that of shut."""

    def test_of_a_cut_a_gift_and_a_limit_that_change_nothing_else(self):
        self.written(1, "/w", 9)
        number = self.opened(1, "/w")
        clock = clock_at(self.system.home(), self.shape)
        for call in (("cut", 1, number, 9), ("give", 0, path("/w"), 1), ("limit", 0, 1, 40)):
            self.deeds(1, *call)
        self.assertEqual(clock_at(self.system.home(), self.shape), clock + 3)

    def test_times_of_files(self):
        self.begin()
        self.written(1, "/w", 9)
        self.assertEqual(self.times(), {"w": 2})
        number = self.opened(1, "/w")
        for call, time in (
            (("link", 0, path("/w"), path("/v")), 2), (("move", 0, path("/w"), path("/u")), 2), (("give", 0, path("/v"), 2), 2),
            (("unlink", 0, path("/u")), 2), (("read", 1, number, 5), 2), (("write", 1, number, ()), 2), (("write", 1, number, (7,)), 7),
            (("cut", 1, number, 3), 8), (("cut", 1, number, 3), 9), (("copy", 0, path("/v"), path("/c")), 9),
        ):
            self.ok(*call)
            self.assertEqual(self.times()["v"], time, call)
        self.assertEqual(self.times(), {"v": 9, "c": 10})
        self.ok("write", 1, number, (1,))
        self.assertEqual(self.times(), {"v": 11, "c": 10})


class QuotaTest(SystemCase):
    SHAPE = Shape(6, 9, 8, 40, 3)

    def limit(self, user, many):
        self.ok("limit", 0, user, many)

    def test_of_the_owner_not_of_the_caller(self):
        self.written(1, "/a", 16)
        self.limit(1, 2)
        number = self.opened(0, "/a")
        self.ok("seek", 0, number, 16)
        self.no("quota", "write", 0, number, (1,))
        self.limit(0, 0)
        self.limit(1, 3)
        self.ok("write", 0, number, (1,))
        self.no("quota", "write", 0, number, (1,) * 8)
        self.written(0, "/b", 0)
        self.no("quota", "write", 0, self.opened(0, "/b"), (1,))

    def test_pointers_count_too(self):
        self.written(1, "/a", 24)
        self.limit(1, 4)
        number = self.opened(1, "/a", "append")
        self.no("quota", "write", 1, number, (1,))
        self.limit(1, 5)
        self.ok("write", 1, number, (1,))

    def test_a_file_without_a_name_that_is_held_counts(self):
        self.written(1, "/a", 16)
        self.written(1, "/b", 0)
        self.limit(1, 3)
        held = self.opened(2, "/a", "read")
        self.ok("unlink", 0, path("/a"))
        number = self.opened(1, "/b")
        self.no("quota", "write", 1, number, (1,) * 9)
        self.ok("write", 1, number, (1,) * 8)
        self.no("quota", "write", 1, number, (1,))
        self.ok("shut", 2, held)
        self.ok("write", 1, number, (1,))

    def test_a_limit_below_what_the_user_has_stays(self):
        self.written(1, "/a", 20)
        number = self.opened(1, "/a")
        self.limit(1, 1)
        self.assertEqual(self.system.usage(1), 3)
        self.ok("write", 1, number, (9,) * 20)
        self.ok("seek", 1, number, 20)
        self.ok("write", 1, number, (9,) * 4)
        self.no("quota", "write", 1, number, (9,))
        self.ok("cut", 1, number, 10)
        self.ok("cut", 1, number, 600)
        self.assertEqual(self.system.usage(1), 2)
        self.no("quota", "write", 1, number, (9,))
        self.ok("create", 1, path("/b"))
        self.ok("link", 1, path("/a"), path("/c"))
        self.ok("move", 1, path("/a"), path("/d"))
        self.ok("copy", 1, path("/b"), path("/e"))

    def test_just_at_the_limit(self):
        self.written(1, "/a", 0)
        self.limit(1, 3)
        number = self.opened(1, "/a")
        self.no("quota", "write", 1, number, (9,) * 25)
        self.ok("write", 1, number, (9,) * 24)
        self.limit(1, 3)

    def test_files_that_share_blocks_count_for_each(self):
        self.written(1, "/a", 16)
        self.limit(1, 3)
        self.no("quota", "copy", 1, path("/a"), path("/b"))
        self.limit(1, 4)
        self.ok("copy", 1, path("/a"), path("/b"))
        self.assertEqual((self.system.usage(1), self.system.free_many()), (4, 38))

    def test_a_write_that_makes_a_shared_block_own_changes_no_ways(self):
        self.written(1, "/a", 16)
        self.ok("copy", 1, path("/a"), path("/b"))
        self.limit(1, 4)
        number = self.opened(1, "/b")
        self.ok("write", 1, number, (7,))
        self.assertEqual((self.system.usage(1), self.system.free_many()), (4, 37))
        self.limit(1, 1)
        self.ok("write", 1, number, (7,) * 8)
        self.assertEqual((self.system.usage(1), self.system.free_many()), (4, 36))

    def test_copy_asks_it_of_the_caller(self):
        self.written(1, "/a", 16)
        self.limit(2, 1)
        self.limit(1, 0)
        self.no("quota", "copy", 2, path("/a"), path("/b"))
        self.limit(2, 2)
        self.ok("copy", 2, path("/a"), path("/b"))
        self.no("quota", "copy", 1, path("/b"), path("/c"))

    def test_copy_of_a_directory_asks_it_of_all_files_together(self):
        self.ok("make", 0, path("/d"))
        self.written(1, "/d/a", 16)
        self.written(2, "/d/b", 8)
        self.ok("link", 0, path("/d/b"), path("/d/c"))
        self.limit(0, 3)
        self.no("quota", "copy", 0, path("/d"), path("/e"))
        self.limit(0, 4)
        self.ok("copy", 0, path("/d"), path("/e"))
        self.assertEqual(self.system.usage(0), 4)

    def test_give_asks_it_of_the_new_owner(self):
        self.written(1, "/a", 16)
        self.written(2, "/b", 8)
        self.limit(2, 2)
        self.no("quota", "give", 0, path("/a"), 2)
        self.limit(2, 3)
        self.ok("give", 0, path("/a"), 2)
        self.limit(2, 0)
        self.limit(1, 0)
        self.ok("give", 0, path("/a"), 2)
        self.no("quota", "give", 0, path("/a"), 1)
        self.written(1, "/c", 0)
        self.ok("give", 0, path("/c"), 2)

    def test_denied_comes_ahead_of_quota(self):
        self.written(1, "/a", 16)
        self.limit(2, 1)
        self.no("denied", "give", 1, path("/a"), 2)
        self.no("quota", "give", 0, path("/a"), 2)


class OrderOfRoomTest(SystemCase):
    """full, then quota, then great."""

    def test_write(self):
        for blocks, limit, slots, word in ((3, 2, 2, "full"), (3, 2, 99, "full"), (9, 2, 2, "quota"), (9, 2, 99, "quota"),
                                           (9, 9, 3, "great"), (9, 9, 99, None)):
            shape = Shape(2, 1, 1, blocks, 1)
            self.begin(shape)
            self.ok("create", 0, ("a",))
            self.ok("limit", 0, 0, limit)
            self.begin(shape, slots, self.system.home())
            number = self.opened(0, "/a")
            if word is None:
                self.ok("write", 0, number, (1,) * 30)
            else:
                self.no(word, "write", 0, number, (1,) * 30)

    def test_copy(self):
        for rows, limit, slots, word in ((1, 1, 1, "full"), (1, 1, 99, "full"), (2, 1, 1, "quota"), (2, 1, 99, "quota"),
                                         (2, 2, 2, "great"), (2, 2, 99, None)):
            shape = Shape(2, rows, 2, 9, 1)
            self.begin(shape)
            self.written(0, "/a", 8)
            self.ok("limit", 0, 0, limit)
            self.begin(shape, slots, self.system.home())
            if word is None:
                self.ok("copy", 0, ("a",), ("b",))
            else:
                self.no(word, "copy", 0, ("a",), ("b",))

    def test_create(self):
        for files, word in ((1, "full"), (2, "great")):
            self.begin(Shape(2, 2, files, 9, 2))
            self.ok("create", 0, ("b",))
            self.begin(self.shape, 2, self.system.home())
            self.no("exists", "create", 0, ("b",))
            self.no(word, "create", 0, ("a",))

    def test_give(self):
        for limit, word in ((0, "quota"), (1, "great")):
            self.begin(Shape(2, 2, 2, 9, 2))
            self.written(0, "/a", 8)
            self.ok("limit", 0, 1, limit)
            self.begin(self.shape, 1, self.system.home())
            self.no(word, "give", 0, ("a",), 1)

    def test_cut(self):
        for blocks, slots, word in ((6, 1, "full"), (6, 9, "full"), (7, 1, "great"), (7, 9, None)):
            self.begin(Shape(2, 2, 2, blocks, 2))
            self.written(0, "/a", 40)
            self.ok("copy", 1, ("a",), ("b",))
            self.begin(self.shape, slots, self.system.home())
            number = self.opened(1, "/b")
            if word is None:
                self.ok("cut", 1, number, 30)
            else:
                self.no(word, "cut", 1, number, 30)


if __name__ == "__main__":
    unittest.main()
