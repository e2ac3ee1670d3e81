"""[1], [64] to [66]: what comes up of systems over stores, and how much a deed changes at most."""

import random
import unittest

from drawn import Caller
from systems import Watched, always_holds, watched
from weavings import drawn_choice

from plugproof.calls import done, is_physical
from plugproof.disk import disk_after
from plugproof.falls import can_open, choice_for, fallen_disk, opened_deeds
from plugproof.names import are_right
from plugproof.plain import Plain
from plugproof.plainstore import PlainStore
from plugproof.readings import dirs_of, met, rows_of, tree_of
from plugproof.shape import Shape
from plugproof.store import fresh_store, open_store
from plugproof.system import System
from plugproof.twins import fallen_twins, fresh_twins, open_twins, opened_twins

SHAPES = ((4, 6, 5, 20, 2), (6, 8, 6, 40, 3))


class Weaving:
    """A system over a store on a disk, and what a plain one was behind each of the store's deeds."""

    def __init__(self, test, draw, shape, store, plain):
        self.test = test
        self.draw = draw
        self.shape = shape
        self.store = store
        self.system = System(shape, store)
        self.plain = plain
        self.behind = [plain.fallen()]
        self.caller = Caller(draw, shape.users, odd=0.01)

    def step(self):
        kind = self.draw.random()
        if kind < 0.25:
            (self.store.push if kind < 0.15 else self.store.sync if kind < 0.2 else self.store.lay)()
            return
        call = self.caller.call(self.system, self.plain.tree())
        deeds = self.store.deeds
        answer = done(self.system, call)
        if not is_physical(answer):
            self.test.assertEqual(done(self.plain, call), answer, call)
        self.test.assertEqual(tree_of(self.system.home(), self.shape), self.plain.tree())
        if self.store.deeds > deeds:
            self.behind.append(self.plain.fallen())

    def comes_up(self, moment, choice):
        """The store that comes up, and the plain system of that moment."""
        disk = fallen_disk(self.store, moment, choice)
        late = open_store(disk, self.shape.plates, self.store.slots)
        plain = self.behind[opened_deeds(self.store, moment, choice)]
        self.test.assertEqual(tree_of(late.home(), self.shape), plain.tree())
        self.test.assertTrue(are_right(late.home(), self.shape))
        # Whatever falls within opening, and how often: the same comes up.
        for _ in range(self.draw.choice((0, 0, 1, 3))):
            within = self.draw.randint(0, len(late.trace))
            torn = drawn_choice(self.draw, disk_after(late.begin, late.trace, within))
            late = open_store(fallen_disk(late, within, torn), self.shape.plates, self.store.slots)
            self.test.assertEqual(tree_of(late.home(), self.shape), plain.tree())
        return late, plain


class TheMainPromiseTest(unittest.TestCase):
    def test_falls(self):
        fewer = 0
        for seed in range(40):
            draw = random.Random(seed)
            shape = Shape(*draw.choice(SHAPES))
            slots = draw.choice((4, 7, 12, shape.plates))
            weaving = Weaving(self, draw, shape, fresh_store(shape.plates, slots, shape.empty_home()), Plain(shape.users, shape.blocks))
            for _ in range(4):
                for _ in range(draw.randint(1, 60)):
                    weaving.step()
                store = weaving.store
                for _ in range(6):
                    moment = draw.randint(0, len(store.trace))
                    choice = drawn_choice(draw, disk_after(store.begin, store.trace, moment))
                    late, plain = weaving.comes_up(moment, choice)
                    fewer += plain.clock < weaving.plain.clock
                # The system goes on over what came up, as a plain one does that fell at that moment.
                weaving = Weaving(self, draw, shape, late, plain.fallen())
                always_holds(self, weaving.system)
        self.assertGreater(fewer, 300)

    def test_each_of_the_list_comes_up(self):
        many = 0
        for seed in range(10):
            draw = random.Random(100 + seed)
            shape = Shape(*draw.choice(SHAPES))
            weaving = Weaving(self, draw, shape, fresh_store(shape.plates, 20, shape.empty_home()), Plain(shape.users, shape.blocks))
            for _ in range(60):
                weaving.step()
            store = weaving.store
            for moment in range(0, len(store.trace) + 1, 2):
                for deeds in can_open(store, moment):
                    choice = choice_for(store, moment, deeds)
                    self.assertEqual(opened_deeds(store, moment, choice), deeds)
                    weaving.comes_up(moment, choice)
                    many += 1
        self.assertGreater(many, 200)

    def test_all_ahead_of_the_last_sync_is_there(self):
        for seed in range(15):
            draw = random.Random(200 + seed)
            shape = Shape(*draw.choice(SHAPES))
            weaving = Weaving(self, draw, shape, fresh_store(shape.plates, 9, shape.empty_home()), Plain(shape.users, shape.blocks))
            for _ in range(30):
                weaving.step()
            done(weaving.system, ("sync", 0))
            deeds, moment = weaving.store.deeds, len(weaving.store.trace)
            for _ in range(10):
                weaving.step()
            store = weaving.store
            for late in range(moment, len(store.trace) + 1, 3):
                choice = drawn_choice(draw, disk_after(store.begin, store.trace, late))
                self.assertGreaterEqual(opened_deeds(store, late, choice), deeds)
                weaving.comes_up(late, choice)

    def test_on_two_disks_one_of_which_is_lost(self):
        for seed in range(10):
            draw = random.Random(300 + seed)
            shape = Shape(*draw.choice(SHAPES))
            twins = fresh_twins(shape.plates, 9, shape.empty_home())
            weaving = Weaving(self, draw, shape, twins.store, Plain(shape.users, shape.blocks))
            for _ in range(3):
                for _ in range(20):
                    weaving.step()
                moment = draw.randint(twins.opening, twins.moments())
                choices = [drawn_choice(draw, twins.disk_at(which, moment)) for which in (0, 1)]
                if draw.random() < 0.5:
                    choices[draw.randrange(2)] = None
                plain = weaving.behind[opened_twins(twins, moment, choices)]
                twins = open_twins(fallen_twins(twins, moment, choices), shape.plates, 9)
                weaving = Weaving(self, draw, shape, twins.store, plain.fallen())
                self.assertEqual(tree_of(weaving.system.home(), shape), plain.tree())


class MeaningTest(unittest.TestCase):
    """[64]: each call that is a deed makes the meaning the next one; each other one, and the store's own calls, keep it."""

    def test_what_keeps_it(self):
        for seed in range(12):
            draw = random.Random(400 + seed)
            shape = Shape(*draw.choice(SHAPES))
            store = fresh_store(shape.plates, 12, shape.empty_home())
            system = System(shape, store)
            caller = Caller(draw, shape.users)
            for _ in range(80):
                before, deeds = tree_of(system.home(), shape), store.deeds
                done(system, caller.call(system, before))
                if store.deeds == deeds:
                    self.assertEqual(tree_of(system.home(), shape), before)
                tree, home = tree_of(system.home(), shape), system.home()
                draw.choice((store.push, store.sync, store.lay))()
                self.assertEqual(system.home(), home)
                late = System(shape, PlainStore(home))
                again = System(shape, PlainStore(late.home()))
                self.assertEqual((tree_of(late.home(), shape), tree_of(again.home(), shape)), (tree, tree))
                self.assertEqual(late.counts, again.counts)


class AtMostTest(unittest.TestCase):
    """[66]: of home plates a deed changes at most so many."""

    MOST = {"make": 2, "remove": 2, "link": 2, "give": 2, "limit": 2, "create": 3, "unlink": 3, "move": 4, "shut": 1, "cut": 9}

    def most_of(self, call, tree):
        if call[0] == "write":
            return len(call[3]) // 8 + 17
        if call[0] != "copy":
            return self.MOST[call[0]]
        path = tuple(call[2])
        entry = {"found": ("", "dir", tree[1])} if path[0] == "found" else {}
        here = ("", "dir", tree[1] if entry else tree[0])
        for name in path[1:] if entry else path:
            here = [inner for inner in here[2] if inner[0] == name][0]
        if here[1] == "file":
            return 3
        dirs, rows = self.count(here)
        return 1 + dirs + 2 * rows

    def count(self, entry):
        dirs, rows = 1, 0
        for inner in entry[2]:
            if inner[1] == "file":
                rows += 1
            else:
                more = self.count(inner)
                dirs, rows = dirs + more[0], rows + more[1]
        return dirs, rows

    def test_drawn_calls(self):
        reached = {}
        for seed in range(30):
            draw = random.Random(500 + seed)
            shape = Shape(*draw.choice(((8, 14, 10, 200, 2), (20, 30, 20, 100, 3))))
            system = watched(shape)
            caller = Caller(draw, shape.users, sizes=(1, 9, 60, 300), odd=0)
            for _ in range(150):
                tree = tree_of(system.home(), shape)
                call = caller.call(system, tree)
                system.store.puts.clear()
                done(system, call)
                for changes in system.store.puts:
                    most = self.most_of(call, tree)
                    self.assertLessEqual(len(changes), most, call)
                    reached[call[0]] = reached.get(call[0], False) or len(changes) == most
        self.assertEqual([word for word in self.MOST if word not in ("cut", "move") and not reached.get(word)], [])

    def test_a_move_of_four(self):
        system = watched(Shape(2, 9, 9, 9, 1))
        for number in range(9):
            done(system, ("create", 0, ("abcdefghi"[number],)))
        system.store.puts.clear()
        done(system, ("move", 0, ("a",), ("i",)))
        self.assertEqual(sorted(system.store.puts[0]), [0, 2, 3, system.shape.file_plate(8)])

    def test_files_with_all_their_blocks(self):
        """Writes and cuts of files whose blocks are shared, and read by a view, at each place."""
        shape = Shape(2, 4, 4, 200, 2)
        system = watched(shape)
        for call in (("create", 0, ("a",)), ("open", 0, ("a",), "write"), ("write", 0, 0, (7,) * 600), ("copy", 1, ("a",), ("b",)),
                     ("open", 1, ("b",), "write"), ("view", 0)):
            self.assertEqual(done(system, call)[0], "ok", call)
        self.assertEqual(len(met(system.home(), shape, 0)), 85)
        home = system.home()
        greatest = 0
        for size in (0, 1, 20, 25, 90, 101, 150, 201, 444, 530, 591, 599, 600):
            for at in (0, 5, 24, 87, 88, 150, 215, 530, 591, 599):
                for many in (1, 8, 9, 70, 350):
                    late = System(shape, Watched(PlainStore(home)))
                    for call in (("open", 1, ("b",), "write"), ("cut", 1, 0, size), ("copy", 0, ("b",), ("c",)), ("seek", 1, 0, at),
                                 ("write", 1, 0, (9,) * min(many, 600 - at))):
                        late.store.puts.clear()
                        self.assertIn(done(late, call)[0], ("ok", "no"))
                        for changes in late.store.puts:
                            most = {"cut": 9, "copy": 3, "write": min(many, 600 - at) // 8 + 17}[call[0]]
                            self.assertLessEqual(len(changes), most, (size, at, many))
                            greatest = max(greatest, len(changes) if call[0] == "write" and many == 1 else 0)
        self.assertGreaterEqual(greatest, 7)

    def test_blocks_of_a_file_and_lengths_of_answers(self):
        shape = Shape(4, 6, 5, 200, 2)
        system = watched(shape)
        draw = random.Random(66)
        caller = Caller(draw, 2, sizes=(1, 200, 600), odd=0)
        for _ in range(300):
            call = caller.call(system, tree_of(system.home(), shape))
            answer = done(system, call)
            home = system.home()
            for file in system.used(home):
                self.assertLessEqual(len(met(home, shape, file)), 85)
            if call[0] == "read" and answer[0] == "ok":
                self.assertLessEqual(len(answer[1]), call[3])
            if call[0] == "list" and answer[0] == "ok":
                self.assertLessEqual(len(answer[1]), len(dirs_of(home, shape)) + len(rows_of(home, shape)))


if __name__ == "__main__":
    unittest.main()
