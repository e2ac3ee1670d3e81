"""[60]: calls that build a tree anew."""

import random
import unittest

from drawn import Caller
from homes import home_with
from systems import path, watched

from plugproof.calls import done, is_call
from plugproof.plain import Plain
from plugproof.plainstore import PlainStore
from plugproof.readings import named_files, tree_of
from plugproof.rebuilding import calls_of, without_times
from plugproof.shape import Shape
from plugproof.system import System

SHAPE = Shape(10, 14, 10, 200, 3)


def plain_without(inner):
    return tuple(entry[:2] + (plain_without(entry[2]),) if entry[1] == "dir" else entry[:4] + entry[5:] for entry in inner)


class WithoutTimesTest(unittest.TestCase):
    def test_of_nothing(self):
        self.assertEqual(without_times(()), ())

    def test_of_files_and_directories(self):
        inner = (("a", "dir", (("b", "file", 0, 1, 77, (5, 7)), ("c", "dir", ()))), ("d", "file", 1, 0, 3, ()), ("e", "file", 0, 1, 77, (5, 7)))
        self.assertEqual(without_times(inner), (
            ("a", "dir", (("b", "file", 0, 1, (5, 7)), ("c", "dir", ()))), ("d", "file", 1, 0, ()), ("e", "file", 0, 1, (5, 7)),
        ))

    def test_only_times_are_left_out(self):
        inner = (("a", "file", 4, 4, 4, (4,)),)
        self.assertEqual(without_times(inner), (("a", "file", 4, 4, (4,)),))
        self.assertEqual(without_times((("a", "file", 4, 4, 5, (4,)),)), without_times(inner))


class CallsOfTest(unittest.TestCase):
    def calls(self, *calls):
        """What calls_of tells of the home that calls make."""
        system = watched(SHAPE)
        for call in calls:
            self.assertEqual(done(system, call)[0], "ok", call)
        return calls_of(system.home(), SHAPE)

    def test_of_nothing(self):
        self.assertEqual(calls_of(SHAPE.empty_home(), SHAPE), ())

    def test_by_names_directories_before_what_lies_beneath(self):
        told = self.calls(*(("make", 1, path(text)) for text in ("/b", "/aa", "/b/z", "/a", "/b/z/k", "/b/c", "/found/y", "/found/y/x")))
        self.assertEqual(told, tuple(("make", 0, path(text)) for text in (
            "/a", "/b", "/b/c", "/b/z", "/b/z/k", "/aa", "/found/y", "/found/y/x")))

    def test_files(self):
        told = self.calls(
            ("create", 2, path("/f")), ("create", 1, path("/e")), ("open", 2, path("/f"), "write"), ("write", 2, 0, (5, 0, -7)),
            ("create", 0, path("/found/g")), ("open", 0, path("/e"), "write"), ("cut", 0, 1, 3), ("give", 0, path("/found/g"), 2),
        )
        self.assertEqual(told, (
            ("create", 1, path("/e")), ("open", 1, path("/e"), "write"), ("write", 1, 0, (0, 0, 0)), ("shut", 1, 0),
            ("create", 2, path("/f")), ("open", 2, path("/f"), "write"), ("write", 2, 0, (5, 0, -7)), ("shut", 2, 0),
            ("create", 2, path("/found/g")),
        ))

    def test_files_with_several_names(self):
        told = self.calls(
            ("make", 0, path("/d")), ("create", 1, path("/z")), ("link", 1, path("/z"), path("/d/y")), ("link", 1, path("/z"), path("/found/b")),
            ("open", 1, path("/z"), "append"), ("write", 1, 0, (1,)), ("create", 2, path("/found/a")), ("link", 0, path("/found/a"), path("/k")),
        )
        self.assertEqual(told, (
            ("make", 0, path("/d")), ("create", 1, path("/d/y")), ("open", 1, path("/d/y"), "write"), ("write", 1, 0, (1,)), ("shut", 1, 0),
            ("create", 2, path("/k")), ("link", 0, path("/d/y"), path("/z")), ("link", 0, path("/k"), path("/found/a")),
            ("link", 0, path("/d/y"), path("/found/b")),
        ))

    def test_any_numbers(self):
        home = home_with(SHAPE, {}, {0: (0, "a", 3), 4: (0, "b", 5)}, files={3: (-4, 9, 2, 1, 0, 0, 0, 0), 5: (9, 1, 2, 1, 999, 0, 0, 0)},
                         blocks={0: (3,) * 8})
        self.assertEqual(calls_of(home, SHAPE), (
            ("create", 0, path("/a")), ("create", 1, path("/b")), ("open", 1, path("/b"), "write"), ("write", 1, 0, (3,) * 8 + (0,)),
            ("shut", 1, 0),
        ))

    def rebuilt(self, home, shape):
        """A system and a plain one on which the calls were done, each of them answered by ok."""
        calls = calls_of(home, shape)
        self.assertIs(type(calls), tuple)
        systems = System(shape, PlainStore(shape.empty_home())), Plain(shape.users, shape.blocks)
        for call in calls:
            self.assertTrue(is_call(call) and isinstance(call, tuple))
            for system in systems:
                self.assertEqual(done(system, call)[0], "ok", call)
        return systems

    def test_homes_that_drawn_calls_made(self):
        files = 0
        for seed in range(40):
            draw = random.Random(seed)
            # So many blocks that they are enough for all numbers, with nothing shared.
            shape = Shape(draw.choice((4, 8)), 9, 8, 200, 3)
            system = watched(shape)
            caller = Caller(draw, 3, sizes=(1, 2, 9, 30), odd=0, places=(0, 7, 24, 60, 90))
            for _ in range(150):
                done(system, caller.call(system, tree_of(system.home(), shape)))
            home = system.home()
            before = dict(home)
            late, plain = self.rebuilt(home, shape)
            self.assertEqual(home, before)
            for told in (tree_of(late.home(), shape), plain.tree()):
                for inner, other in zip(told, tree_of(home, shape)):
                    self.assertEqual(plain_without(inner), plain_without(other))
                    self.assertEqual(without_times(inner), without_times(other))
            self.assertEqual((late.handles.known, plain.handles.known), ({}, {}))
            # Nothing is shared, and no hole is left where a number stands.
            self.assertLessEqual(max(late.counts), 1)
            for file in named_files(late.home(), shape):
                size = late.home()[shape.file_plate(file)][0]
                self.assertEqual(late.counts.count(1), sum(late.counts))
                self.assertTrue(size == 0 or 0 not in late.home()[shape.file_plate(file)][3:3 + min(3, -(-size // 8))])
            self.assertEqual(calls_of(late.home(), shape), calls_of(home, shape))
            files += len(named_files(home, shape))
        self.assertGreater(files, 100)


if __name__ == "__main__":
    unittest.main()
