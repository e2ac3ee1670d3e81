"""[55]: the plain system, and that a system over any store answers as it does."""

import random
import unittest

from drawn import WORDS, Caller
from systems import always_holds

from plugproof.calls import done, is_physical
from plugproof.plain import Plain, PlainFile
from plugproof.plainstore import PlainStore
from plugproof.readings import tree_of
from plugproof.shape import Shape
from plugproof.store import fresh_store
from plugproof.system import System


def plain_with(*calls):
    plain = Plain(2, 30)
    for call in calls:
        answer = done(plain, call)
        assert answer[0] == "ok", (call, answer)
    return plain


class PlainTest(unittest.TestCase):
    def setUp(self):
        self.plain = plain_with(
            ("make", 0, ("d",)), ("create", 1, ("d", "f")), ("link", 0, ("d", "f"), ("found", "g")), ("create", 0, ("h",)),
            ("open", 0, ("h",), "write"), ("open", 1, ("d", "f"), "append"), ("write", 1, 1, (5, 7)), ("write", 0, 0, (1,)),
            ("unlink", 0, ("h",)), ("view", 1),
        )

    def test_a_new_one(self):
        plain = Plain(3, 17)
        self.assertEqual((plain.users, plain.blocks, plain.clock), (3, 17, 0))
        self.assertEqual((list(plain.dirs), plain.dirs[0], plain.dirs[1]), ([0, 1], {}, {}))
        self.assertEqual((plain.files, plain.handles.known, plain.moments), ({}, {}, {}))
        self.assertEqual(plain.tree(), ((), ()))

    def test_plain_files(self):
        self.assertEqual(vars(PlainFile(1, 5, (3, 4))), {"owner": 1, "time": 5, "numbers": (3, 4)})

    def test_dirs_and_files(self):
        plain = self.plain
        self.assertEqual(list(plain.dirs)[:2], [0, 1])
        (d,) = [number for number in plain.dirs if number > 1]
        kind, f = plain.dirs[d]["f"]
        self.assertEqual((kind, plain.dirs[0], plain.dirs[1]), ("file", {"d": ("dir", d)}, {"g": ("file", f)}))
        (h,) = [number for number in plain.files if number != f]
        self.assertEqual(vars(plain.files[f]), {"owner": 1, "time": 5, "numbers": (5, 7)})
        self.assertEqual(vars(plain.files[h]), {"owner": 0, "time": 6, "numbers": (1,)})
        self.assertIs(type(plain.files[f]), PlainFile)
        self.assertEqual((plain.clock, sorted(plain.handles.known), sorted(plain.moments)), (7, [0, 1], [0]))
        self.assertEqual(plain.moments[0][0], 1)

    def test_tree(self):
        self.assertEqual(self.plain.tree(), ((("d", "dir", (("f", "file", 0, 1, 5, (5, 7)),)),), (("g", "file", 0, 1, 5, (5, 7)),)))
        plain = plain_with(*(("make", 0, (name,)) for name in ("b", "aa", "z", "a")))
        self.assertEqual([entry[0] for entry in plain.tree()[0]], ["a", "b", "z", "aa"])
        plain = plain_with(("create", 0, ("b",)), ("create", 1, ("a",)), ("link", 0, ("b",), ("found", "x")), ("create", 1, ("found", "a")))
        self.assertEqual(plain.tree(), (
            (("a", "file", 0, 1, 2, ()), ("b", "file", 1, 0, 1, ())), (("a", "file", 2, 1, 4, ()), ("x", "file", 1, 0, 1, ())),
        ))

    def test_tick_and_fresh(self):
        self.assertEqual((self.plain.tick(), self.plain.tick(), self.plain.clock), (8, 9, 9))
        number = self.plain.fresh()
        self.assertNotIn(number, self.plain.dirs)
        self.assertNotIn(number, self.plain.files)
        self.assertTrue(number > 1)
        self.assertTrue(Plain(1, 1).fresh() > 1)

    def test_copy_now(self):
        late = self.plain.copy_now()
        self.assertEqual((late.users, late.blocks, late.clock, late.tree()), (2, 30, 7, self.plain.tree()))
        self.assertEqual((late.handles.known, late.moments, len(late.files)), ({}, {}, 2))
        self.assertEqual((sorted(self.plain.handles.known), sorted(self.plain.moments)), ([0, 1], [0]))
        before = self.plain.tree()
        for call in (("give", 0, ("d", "f"), 0), ("open", 0, ("d", "f"), "write"), ("cut", 0, 0, 1), ("make", 0, ("d", "e")),
                     ("unlink", 0, ("found", "g")), ("move", 0, ("d",), ("c",))):
            self.assertEqual(done(late, call)[0], "ok")
        self.assertEqual(self.plain.tree(), before)
        copied = late.tree()
        done(self.plain, ("write", 1, 1, (9,)))
        done(self.plain, ("unlink", 1, ("d", "f")))
        self.assertEqual(late.tree(), copied)

    def test_fallen(self):
        late = self.plain.fallen()
        self.assertEqual((late.users, late.blocks, late.clock, late.tree()), (2, 30, 7, self.plain.tree()))
        self.assertEqual((late.handles.known, late.moments), ({}, {}))
        self.assertEqual([vars(file) for file in late.files.values()], [{"owner": 1, "time": 5, "numbers": (5, 7)}])
        self.assertEqual(len(self.plain.files), 2)
        done(self.plain, ("unlink", 0, ("d", "f")))
        self.assertEqual(self.plain.fallen().tree(), ((("d", "dir", ()),), (("g", "file", 0, 1, 5, (5, 7)),)))
        done(self.plain, ("unlink", 0, ("found", "g")))
        self.assertEqual((self.plain.fallen().files, len(self.plain.copy_now().files)), ({}, 2))

    def test_files_has_just_those_in_use(self):
        done(self.plain, ("shut", 0, 0))
        self.assertEqual(len(self.plain.files), 1)
        done(self.plain, ("unlink", 0, ("d", "f")))
        self.assertEqual(len(self.plain.files), 1)
        done(self.plain, ("unlink", 0, ("found", "g")))
        self.assertEqual(len(self.plain.files), 1)
        done(self.plain, ("shut", 1, 1))
        self.assertEqual((self.plain.files, done(self.plain, ("view_read", 1, 0, ("d", "f")))), ({}, ("ok", (5, 7))))

    def test_files_that_are_moved_over_go(self):
        plain = plain_with(("create", 0, ("a",)), ("create", 0, ("b",)), ("make", 0, ("c",)), ("make", 0, ("e",)))
        done(plain, ("move", 0, ("a",), ("b",)))
        done(plain, ("move", 0, ("c",), ("e",)))
        self.assertEqual((len(plain.files), len(plain.dirs), [entry[0] for entry in plain.tree()[0]]), (1, 3, ["b", "e"]))

    def test_directories_that_are_removed_go(self):
        plain = plain_with(("make", 0, ("a",)), ("make", 0, ("a", "b")), ("remove", 0, ("a", "b")), ("remove", 0, ("a",)))
        self.assertEqual(plain.dirs, {0: {}, 1: {}})

    def test_limits(self):
        for many in (0, 1, 30):
            self.assertEqual(done(self.plain, ("limit", 0, 1, many)), ("ok", None))
        for word, call in (("number", ("limit", 0, 1, -1)), ("number", ("limit", 0, 1, 31)), ("number", ("limit", 1, 0, True)),
                           ("user", ("limit", 1, 2, -1)), ("denied", ("limit", 1, 1, 30))):
            self.assertEqual(done(self.plain, call), ("no", word))
        self.assertEqual(self.plain.clock, 10)

    def test_numbers_are_put_anew(self):
        (file,) = [file for file in self.plain.files.values() if file.owner == 1]
        numbers = file.numbers
        done(self.plain, ("write", 1, 1, [8]))
        self.assertEqual((numbers, file.numbers), ((5, 7), (5, 7, 8)))
        self.assertIs(type(file.numbers), tuple)

    def test_it_has_no_refusal_that_tells_of_room(self):
        plain = Plain(1, 1)
        for number in range(100):
            name = chr(97 + number // 26) + chr(97 + number % 26)
            for call in (("make", 0, (name,)), ("create", 0, (name, "f"))):
                self.assertEqual(done(plain, call), ("ok", None))
        self.assertEqual(done(plain, ("limit", 0, 0, 0)), ("ok", None))
        self.assertEqual(done(plain, ("open", 0, ("aa", "f"), "write")), ("ok", 0))
        self.assertEqual(done(plain, ("write", 0, 0, (1,) * 600)), ("ok", None))
        self.assertEqual(done(plain, ("copy", 0, ("aa",), ("found", "x"))), ("ok", None))


class Beside:
    """Systems beside a plain one; those that told of room go their own way no more."""

    def __init__(self, test, systems, plain):
        self.test = test
        self.systems = systems
        self.plain = plain
        self.told = {}

    def call(self, call):
        answers = [done(system, call) for system in self.systems]
        for answer in answers:
            self.test.assertEqual(answer, answers[0], call)
        if is_physical(answers[0]):
            self.note(call, answers[0])
            return
        answer = done(self.plain, call)
        self.test.assertEqual(answers[0], answer, call)
        self.note(call, answer)

    def note(self, call, answer):
        key = (call[0],) + (answer if answer[0] == "no" else ("ok",))
        self.told[key] = self.told.get(key, 0) + 1

    def holds(self):
        tree = self.plain.tree()
        for system in self.systems:
            self.test.assertEqual(tree_of(system.home(), system.shape), tree)
            always_holds(self.test, system)
        self.test.assertEqual(len(self.plain.files), len(self.systems[0].used(self.systems[0].home())))
        return tree


# Small shapes, most of which run full of one thing or another.
SHAPES = ((4, 6, 5, 20, 2), (6, 4, 5, 40, 2), (6, 9, 3, 40, 3), (7, 9, 7, 12, 2), (8, 14, 10, 60, 4), (8, 10, 8, 200, 2))


class TheFactTest(unittest.TestCase):
    def rows(self, seed, many, length, odd, **caller):
        """What was told in rows of drawn calls on each of the shapes."""
        told = {}
        for at in range(many):
            draw = random.Random(seed * 1000 + at)
            shape = Shape(*SHAPES[at % len(SHAPES)])
            store = fresh_store(shape.plates, shape.plates, shape.empty_home())
            systems = [System(shape, PlainStore(shape.empty_home())), System(shape, store)]
            beside = Beside(self, systems, Plain(shape.users, shape.blocks))
            calls = Caller(draw, shape.users, odd=odd, **caller)
            tree = beside.holds()
            for _ in range(length):
                beside.call(calls.call(systems[0], tree))
                tree = beside.holds()
                kind = draw.random()
                if kind < 0.3:
                    (store.push if kind < 0.2 else store.sync if kind < 0.27 else store.lay)()
            for key, number in beside.told.items():
                told[key] = told.get(key, 0) + number
        return told

    def test_long_rows_of_calls(self):
        told = self.rows(55, 36, 300, 0.04)
        for word in WORDS:
            self.assertGreater(told.get((word, "ok"), 0), 3, word)
        words = {key[2] for key in told if key[1] == "no"}
        self.assertLessEqual({
            "full", "quota", "path", "root", "missing", "nodir", "isdir", "exists", "notempty", "loop", "user", "denied", "number",
            "mode", "handle", "locked", "long", "kind", "view",
        }, words)

    def test_calls_that_are_seldom_refused_otherwise(self):
        told = self.rows(56, 18, 300, 0, sizes=(1, 8, 60, 150), places=(0, 100, 300, 599))
        self.assertGreater(told["write", "no", "full"], 10)
        self.assertGreater(told["write", "ok"], 100)

    def test_handles_and_views_that_run_out(self):
        draw = random.Random(57)
        shape = Shape(4, 6, 5, 30, 2)
        system = System(shape, PlainStore(shape.empty_home()))
        beside = Beside(self, [system], Plain(2, 30))
        calls = Caller(draw, 2, odd=0)
        for _ in range(700):
            call = calls.call(system, beside.holds())
            if call[0] not in ("shut", "end_view", "unlink", "move"):
                beside.call(call)
        self.assertGreater(beside.told["open", "no", "handles"], 5)
        self.assertGreater(beside.told["view", "no", "views"], 1)


if __name__ == "__main__":
    unittest.main()
