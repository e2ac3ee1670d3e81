"""[54]: calls as plain tuples."""

import unittest

from systems import SystemCase, path

from plugproof.calls import SIZES, done, is_call, is_physical
from plugproof.plain import Plain

TOLD = {
    "make": 1, "create": 1, "link": 2, "unlink": 1, "remove": 1, "move": 2, "copy": 2, "list": 1, "tell": 1, "give": 2,
    "limit": 2, "sync": 0, "open": 2, "shut": 1, "read": 2, "write": 2, "seek": 2, "cut": 2, "lock": 2, "unlock": 1,
    "view": 0, "view_list": 2, "view_read": 2, "view_tell": 2, "end_view": 1,
}


class IsCallTest(unittest.TestCase):
    def test_sizes(self):
        self.assertEqual(SIZES, TOLD)

    def test_calls(self):
        for word, many in SIZES.items():
            for user in (0, -1, None, True, "x", [], (1,)):
                self.assertIs(is_call((word, user) + (None,) * many), True)
                self.assertIs(is_call([word, user] + [{}] * many), True)

    def test_too_short_and_too_long(self):
        for word, many in SIZES.items():
            for other in set(range(5)) - {many}:
                self.assertIs(is_call((word, 0) + ((),) * other), False)
            self.assertIs(is_call((word,)), False)

    def test_other_things(self):
        words = ("", "Make", "open_file", "list_dir", "check_user", "usage", "draft", 1, True, None, b"make", ("make",), ["make"],
                 {"make": 1}, {"make"}, 1.0)
        for word in words:
            for many in range(4):
                self.assertIs(is_call((word, 0) + ((),) * many), False)
        for thing in ((), [], None, 0, True, "sync", "make", {"sync": 0}, {"sync", 0}, ((),), ("sync", 0).__iter__()):
            self.assertIs(is_call(thing), False)


class DoneTest(SystemCase):
    def systems(self):
        return self.system, Plain(self.shape.users, self.shape.blocks)

    def test_no_call(self):
        for system in self.systems():
            for thing in ((), None, "sync", ("sync",), ("sync", 0, 1), ("nix", 0), ("nix", 9), ("make", 9), (None, 0)):
                self.assertEqual(done(system, thing), ("no", "call"))

    def test_no_user(self):
        for system in self.systems():
            for user in (-1, self.shape.users, 99, True, False, "0", None, (0,), [], 0.0):
                for word, many in SIZES.items():
                    self.assertEqual(done(system, (word, user) + (None,) * many), ("no", "user"))

    def test_each_user(self):
        for system in self.systems():
            for user in range(self.shape.users):
                self.assertEqual(done(system, ("sync", user)), ("ok", None))

    def test_each_word_is_its_call(self):
        for system in self.systems():
            answers = [done(system, call) for call in (
                ("make", 0, path("/a")), ["create", 1, ["a", "b"]], ("link", 0, path("/a/b"), path("/c")),
                ("move", 0, path("/c"), path("/d")), ("copy", 2, path("/a"), path("/e")), ("list", 0, ()),
                ("give", 0, path("/d"), 2), ("tell", 0, path("/d")), ("unlink", 0, path("/d")), ("list", 0, path("/a")),
                ("make", 0, path("/x")), ("remove", 0, path("/x")), ("limit", 0, 1, 5), ("sync", 1),
                ("open", 2, path("/a/b"), "write"), ("write", 2, 0, [4, 5]), ("seek", 2, 0, 1), ("read", 2, 0, 9),
                ("cut", 2, 0, 1), ("lock", 2, 0, "alone"), ("view", 1), ("unlock", 2, 0), ("shut", 2, 0),
                ("view_list", 1, 0, ()), ("view_read", 1, 0, path("/a/b")), ("view_tell", 1, 0, path("/a/b")),
                ("end_view", 1, 0), ("end_view", 1, 0), ("shut", 2, 0),
            )]
            self.assertEqual([answer[1] for answer in answers], [
                None, None, None, None, None, (("a", "dir"), ("d", "file"), ("e", "dir")), None, ("file", 2, 2, 0, 2), None,
                (("b", "file"),), None, None, None, None, 0, None, None, (5,), None, None, 0, None, None,
                (("a", "dir"), ("e", "dir")), (4,), ("file", 2, 12, 1, 1), None, "view", "handle",
            ])
            self.assertEqual([answer[0] for answer in answers], ["ok"] * 27 + ["no", "no"])

    def test_methods_do_not_ask_who_calls(self):
        for system in self.systems():
            system.make(77, ("a",))
            system.create(0, ("b",))
            self.assertEqual(system.list_dir(-1, ()), (("a", "dir"), ("b", "file")))


class IsPhysicalTest(unittest.TestCase):
    def test_refusals(self):
        for word in ("full", "quota", "great"):
            self.assertIs(is_physical(("no", word)), True)
            self.assertIs(is_physical(("ok", word)), False)
        for word in (
            "call", "user", "path", "root", "missing", "nodir", "isdir", "exists", "loop", "notempty", "denied", "number",
            "mode", "handles", "handle", "locked", "long", "kind", "views", "view", "levels", "users", "", "fullest",
        ):
            self.assertIs(is_physical(("no", word)), False)

    def test_answers(self):
        for answer in (None, 0, (), ("full",), ("dir", 0), (("full", "dir"),), ("no", "full")):
            self.assertIs(is_physical(("ok", answer)), False)


if __name__ == "__main__":
    unittest.main()
