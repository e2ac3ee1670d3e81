"""[50]: what a system keeps of its home, and that each call is one deed or none."""

import unittest

from homes import home_with
from systems import SystemCase, Watched, path, state, watched

from plugproof.calls import done
from plugproof.drafts import Draft
from plugproof.errors import Refused
from plugproof.plainstore import PlainStore
from plugproof.readings import clock_at, limit_at, size_at, time_at, tree_of
from plugproof.shape import Shape
from plugproof.store import fresh_store, open_store
from plugproof.system import System

SHAPE = Shape(5, 5, 4, 12, 2)


class MadeTest(unittest.TestCase):
    def test_attributes(self):
        store = PlainStore(SHAPE.empty_home())
        system = System(SHAPE, store)
        self.assertIs(system.store, store)
        self.assertEqual(system.shape, SHAPE)
        self.assertEqual((system.handles.known, system.views.known), ({}, {}))
        self.assertEqual(system.counts, [0] * 12)
        self.assertEqual(len(store.homes), 1)

    def test_counts_are_told_by_the_walk_over_all_named_files(self):
        home = home_with(
            SHAPE, {}, {0: (0, "a", 1), 1: (0, "b", 1), 3: (1, "c", 2)},
            files={0: (9, 0, 0, 1, 2, 0, 0, 0), 1: (9, 0, 0, 3, 4, 0, 5, 0), 2: (0, 1, 0, 3, 3, 0, 0, 6), 3: (9, 0, 0, 12, 0, 0, 0, 0)},
            blocks={4: (7, 3, 0, 0, 0, 0, 0, 99), 5: (8, 0, 0, 0, 0, 0, 0, 0), 7: (9, 10, 0, 0, 0, 0, 0, 0)},
        )
        system = System(SHAPE, PlainStore(home))
        self.assertEqual(system.counts, [0, 0, 4, 1, 1, 1, 1, 1, 1, 1, 0, 0])
        self.assertEqual(system.used(home), [1, 2])
        self.assertEqual((system.usage(0), system.usage(1)), (5, 6))
        self.assertEqual(system.free_many(), 4)
        self.assertEqual(system.home(), home)

    def test_over_a_store_on_a_disk_and_over_a_plain_one(self):
        systems = [System(SHAPE, PlainStore(SHAPE.empty_home())), System(SHAPE, fresh_store(SHAPE.plates, 9, SHAPE.empty_home()))]
        for call in (
            ("make", 0, path("/a")), ("create", 1, path("/a/b")), ("open", 1, path("/a/b"), "write"), ("write", 1, 0, (5, 7)),
            ("copy", 0, path("/a"), path("/c")), ("cut", 1, 0, 1), ("sync", 0), ("unlink", 0, path("/a/b")), ("shut", 1, 0),
        ):
            answers = [done(system, call) for system in systems]
            self.assertEqual(answers[0], answers[1])
            self.assertEqual(systems[0].home(), systems[1].home())
            self.assertEqual(systems[0].counts, systems[1].counts)
        self.assertEqual((systems[1].store.deeds, systems[1].store.settled_deeds), (7, 5))
        self.assertEqual((len(systems[0].store.homes), systems[0].store.settled), (8, 5))

    def test_sync_is_that_of_the_store(self):
        system = System(SHAPE, fresh_store(SHAPE.plates, 9, SHAPE.empty_home()))
        done(system, ("make", 0, ("a",)))
        self.assertEqual((system.store.trace, system.store.settled_deeds), ((), 0))
        self.assertEqual(done(system, ("sync", 1)), ("ok", None))
        self.assertEqual((system.store.trace[-1], system.store.settled_deeds), (("barrier",), 1))


class HomeTest(SystemCase):
    SHAPE = SHAPE

    def test_home_is_a_new_dict(self):
        self.ok("make", 0, path("/a"))
        home = self.system.home()
        home[0] = (9,) * 8
        self.assertEqual(clock_at(self.system.home(), SHAPE), 1)

    def test_used_and_usage_and_free_many(self):
        self.written(1, "/a", 30)
        self.written(0, "/b", 3)
        self.ok("create", 1, path("/c"))
        self.assertEqual(self.system.used(self.system.home()), [0, 1, 2])
        self.assertEqual((self.system.usage(0), self.system.usage(1), self.system.free_many()), (1, 5, 6))
        number = self.opened(1, "/a")
        self.ok("unlink", 0, path("/a"))
        self.assertEqual(self.system.used(self.system.home()), [0, 1, 2])
        self.assertEqual(self.system.used(SHAPE.empty_home()), [0])
        self.assertEqual((self.system.usage(1), self.system.free_many()), (5, 6))
        self.ok("shut", 1, number)
        self.assertEqual(self.system.used(self.system.home()), [1, 2])
        self.assertEqual((self.system.usage(0), self.system.usage(1), self.system.free_many()), (1, 0, 11))

    def test_draft(self):
        self.written(0, "/a", 20)
        self.ok("view", 0)
        self.ok("unlink", 0, path("/a"))
        draft = self.system.draft()
        self.assertIsInstance(draft, Draft)
        self.assertEqual((draft.shape, draft.home, draft.changes), (SHAPE, self.system.home(), {}))
        self.assertEqual((draft.counts, sorted(draft.pins)), ([0] * 12, [0, 1, 2]))
        self.assertIsInstance(draft.pins, dict)
        self.assertEqual(self.system.free_many(), 9)
        draft.put(0, (7,) * 8)
        draft.put_count(3, 5)
        self.assertEqual((self.system.counts, clock_at(self.system.home(), SHAPE)), ([0] * 12, 3))
        self.ok("end_view", 0, 0)
        self.assertEqual(sorted(self.system.draft().pins), [])

    def test_check_user(self):
        for user in (0, 1):
            self.assertIsNone(self.system.check_user(user))
        for user in (-1, 2, True, False, "0", None, (), [0]):
            with self.assertRaises(Refused) as caught:
                self.system.check_user(user)
            self.assertEqual(caught.exception.word, "user")

    def test_methods_answer_and_refuse(self):
        system = self.system
        self.assertIsNone(system.make(0, ("a",)))
        self.assertIsNone(system.create(1, ["a", "b"]))
        self.assertEqual(system.open_file(1, ("a", "b"), "append"), 0)
        self.assertIsNone(system.write(1, 0, [1, 2]))
        with self.assertRaises(Refused) as caught:
            system.make(0, ("a",))
        self.assertEqual(caught.exception.word, "exists")


class DeedsTest(SystemCase):
    """How many deeds each call is; `ok` looks whether its put has just the plates changed."""

    def setUp(self):
        self.begin(Shape(8, 12, 8, 60, 2))
        self.all_ok(
            ("make", 0, path("/a")), ("make", 0, path("/a/b")), ("create", 1, path("/a/f")), ("create", 0, path("/g")),
            ("open", 1, path("/a/f"), "write"), ("open", 0, path("/g"), "read"), ("write", 1, 0, tuple(range(1, 40))),
        )

    def test_calls_that_are_one_deed(self):
        for call in (
            ("make", 0, path("/m")), ("create", 0, path("/a/n")), ("link", 0, path("/g"), path("/a/b/g")),
            ("unlink", 0, path("/a/b/g")), ("remove", 1, path("/a/b")), ("move", 0, path("/a"), path("/m")),
            ("copy", 0, path("/m/f"), path("/f")), ("copy", 0, path("/m"), path("/o")), ("give", 0, path("/f"), 1),
            ("give", 0, path("/f"), 1), ("limit", 0, 1, 60), ("limit", 0, 1, 60), ("write", 1, 0, (1,)), ("write", 1, 0, (1,)),
            ("cut", 1, 0, 3), ("cut", 1, 0, 3), ("cut", 1, 0, 600), ("unlink", 0, path("/m/f")), ("shut", 1, 0),
        ):
            self.deeds(1, *call)

    def test_calls_that_are_none(self):
        for call in (
            ("move", 0, path("/a"), path("/a")), ("move", 0, path("/a/f"), path("/a/f")), ("write", 1, 0, ()), ("write", 1, 0, []),
            ("read", 1, 0, 9), ("read", 1, 0, 0), ("list", 0, ()), ("list", 0, path("/a")), ("tell", 0, path("/a")),
            ("tell", 0, path("/g")), ("seek", 1, 0, 0), ("open", 0, path("/g"), "append"), ("lock", 1, 0, "alone"),
            ("lock", 1, 0, "shared"), ("unlock", 1, 0), ("unlock", 1, 0), ("view", 0), ("view_list", 0, 0, ()),
            ("view_read", 0, 0, path("/a/f")), ("view_tell", 0, 0, path("/g")), ("end_view", 0, 0), ("shut", 0, 1),
            ("shut", 0, 2), ("shut", 1, 0), ("sync", 0),
        ):
            self.deeds(0, *call)

    def test_a_file_without_rows_goes_with_the_last_of_its_handles(self):
        self.opened(0, "/a/f")
        self.deeds(1, "unlink", 0, path("/a/f"))
        self.deeds(0, "shut", 1, 0)
        self.deeds(1, "shut", 0, 2)

    def test_a_write_of_what_stands_there_changes_only_times(self):
        self.ok("seek", 1, 0, 8)
        self.ok("write", 1, 0, tuple(range(9, 25)))
        self.assertEqual(sorted(self.system.store.puts[0]), [0, self.shape.file_plate(0)])


class GreatTest(SystemCase):
    """Stores whose ring is smaller than a deed."""

    SHAPE = Shape(10, 12, 8, 40, 3)

    def test_each_call_that_has_more_plates_than_the_ring(self):
        for slots, call in ((1, ("make", 0, path("/a"))), (2, ("create", 0, path("/a"))), (1, ("limit", 0, 1, 7))):
            self.begin(slots=slots)
            self.no("great", *call)
            self.begin(slots=slots + 1)
            self.ok(*call)

    def filled(self, slots):
        """A system over a ring of so many slots, in whose home some things stand already."""
        first = watched(self.SHAPE)
        for call in (
            ("make", 0, path("/a")), ("make", 0, path("/a/b")), ("create", 1, path("/a/f")), ("create", 0, path("/g")),
            ("make", 0, path("/e")), ("make", 0, path("/h")), ("make", 0, path("/i")), ("link", 0, path("/g"), path("/found/k")),
            ("open", 1, path("/a/f"), "write"), ("write", 1, 0, tuple(range(1, 101))), ("shut", 1, 0),
        ):
            self.assertEqual(done(first, call)[0], "ok")
        self.begin(slots=slots, home=first.home())

    def plates_of(self, calls):
        """How many plates the last of some calls changes."""
        self.filled(99)
        self.all_ok(*calls)
        return len(self.system.store.puts[0])

    def test_each_call_at_its_ring(self):
        # Each call behind what must be ahead of it; those ahead are no deeds, or of no more plates than the call.
        for calls in (
            [("make", 0, path("/m"))],
            [("create", 0, path("/m"))],
            [("link", 0, path("/g"), path("/m"))],
            [("unlink", 0, path("/a/f"))],
            [("remove", 0, path("/e"))],
            [("move", 0, path("/a/f"), path("/g"))],
            [("move", 0, path("/a/b"), path("/e"))],
            [("copy", 0, path("/a/f"), path("/m"))],
            [("copy", 0, path("/a"), path("/m"))],
            [("give", 0, path("/g"), 1)],
            [("limit", 0, 1, 7)],
            [("open", 1, path("/a/f"), "write"), ("write", 1, 0, (7,) * 30)],
            [("open", 1, path("/a/f"), "write"), ("view", 0), ("cut", 1, 0, 30)],
            [("open", 1, path("/a/f"), "write"), ("seek", 1, 0, 500), ("write", 1, 0, (7,) * 90)],
        ):
            many = self.plates_of(calls)
            self.filled(many)
            self.all_ok(*calls)
            self.filled(many - 1)
            self.all_ok(*calls[:-1])
            self.no("great", *calls[-1])

    def test_the_next_call_goes_on_as_if_it_had_not_been(self):
        self.begin(slots=4)
        other = watched(self.SHAPE)
        calls = (
            ("create", 0, path("/a")), ("open", 0, path("/a"), "write"), ("write", 0, 0, (1, 2)), ("write", 0, 0, (9,) * 40),
            ("write", 0, 0, (3,)), ("tell", 0, path("/a")), ("make", 1, path("/b")), ("create", 0, path("/b/c")),
            ("create", 0, path("/b/d")), ("copy", 1, path("/b"), path("/e")), ("list", 0, ()), ("create", 1, path("/e")),
            ("seek", 0, 0, 0), ("read", 0, 0, 9), ("view", 1), ("view_list", 1, 0, ()),
        )
        great = 0
        for call in calls:
            answer = done(self.system, call)
            if answer == ("no", "great"):
                great += 1
            else:
                self.assertEqual(answer, done(other, call), call)
            self.assertEqual(self.system.home(), other.home())
            self.assertEqual(state(self.system)[1:4], state(other)[1:4])
        self.assertEqual(great, 2)


class RestTest(SystemCase):
    """Room that nothing leads to is there again in a system that is made anew."""

    SHAPE = SHAPE

    def test_what_open_files_without_names_had(self):
        self.written(0, "/a", 20)
        self.written(0, "/b", 8)
        self.opened(0, "/a")
        self.ok("view", 1)
        self.ok("unlink", 0, path("/a"))
        self.assertEqual(self.system.free_many(), 8)
        late = System(SHAPE, Watched(PlainStore(self.system.home())))
        self.assertEqual((late.handles.known, late.views.known), ({}, {}))
        self.assertEqual((late.free_many(), late.used(late.home())), (11, [1]))
        self.assertEqual(tree_of(late.home(), SHAPE), self.tree())
        self.assertEqual([done(late, call) for call in (("read", 0, 0, 1), ("view_list", 1, 0, ()))], [("no", "handle"), ("no", "view")])
        self.assertEqual(done(late, ("create", 1, path("/c"))), ("ok", None))
        self.assertEqual((late.used(late.home()), size_at(late.home(), SHAPE, 0)), ([0, 1], 0))
        again = System(SHAPE, Watched(PlainStore(late.home())))
        self.assertEqual((again.home(), again.counts, again.free_many()), (late.home(), late.counts, 11))

    def test_over_what_comes_up_behind_a_fall(self):
        store = fresh_store(SHAPE.plates, 20, SHAPE.empty_home())
        system = System(SHAPE, store)
        for call in (("create", 0, ("a",)), ("open", 0, ("a",), "write"), ("write", 0, 0, (1,) * 20), ("sync", 0), ("unlink", 0, ("a",))):
            self.assertEqual(done(system, call)[0], "ok")
        store.push()
        self.assertEqual(system.free_many(), 9)
        for choice, free, tree in (({}, 9, (("a", "file", 0, 0, 2, (1,) * 20),)), (None, 12, ())):
            disk = store.disk()
            choice = {plate: 1 for plate, _ in disk.loose} if choice is None else choice
            late = System(SHAPE, open_store(disk.fallen(choice), SHAPE.plates, 20))
            self.assertEqual((late.free_many(), tree_of(late.home(), SHAPE)[0]), (free, tree))


class AnyNumbersTest(SystemCase):
    """Systems over right homes whose plates hold what no call has put there."""

    SHAPE = SHAPE

    def test_sizes_owners_limits_and_holes(self):
        home = home_with(SHAPE, {}, {0: (0, "a", 1), 1: (1, "b", 2)}, files={1: (-5, 9, 3, 1, 0, 0, 0, 0), 2: (700, -1, 4, 99, -2, 2, 0, 0)},
                         blocks={0: (7,) * 8, 1: (8,) * 8})
        home[SHAPE.first_user] = (1, -3, 0, 0, 0, 0, 0, 0)
        self.begin(home=home)
        self.assertEqual(self.ok("tell", 1, path("/a")), ("file", 0, 3, 0, 1))
        self.assertEqual(self.ok("tell", 1, path("/found/b")), ("file", 0, 4, 600, 1))
        self.assertEqual(limit_at(self.system.home(), SHAPE, 1), -3)
        number = self.opened(0, "/a")
        self.ok("write", 0, number, (5,))
        self.no("quota", "write", 0, number, (5,) * 16)
        self.assertEqual(self.root()[0][5], (5,))
        self.no("quota", "give", 0, path("/a"), 1)
        self.assertEqual(time_at(self.system.home(), SHAPE, 1), 1)


if __name__ == "__main__":
    unittest.main()
