"""Systems whose calls are watched: what each puts into the store, and that a refused one changes nothing."""

import unittest

from plugproof.calls import done
from plugproof.counted import free_blocks
from plugproof.names import are_right
from plugproof.plainstore import PlainStore
from plugproof.readings import clock_at, counts_of, met, tree_of
from plugproof.shape import Shape
from plugproof.store import fresh_store
from plugproof.system import System

# The words of the calls that can be deeds.
DEEDS = ("make", "create", "link", "unlink", "remove", "move", "copy", "give", "limit", "write", "cut", "shut")


def path(text):
    """`/a/b` as a path."""
    return tuple(name for name in text.split("/") if name)


class Watched:
    """A store that tells the changes of each put, those that are refused too."""

    def __init__(self, store):
        self.store = store
        self.puts = []

    def home(self):
        return self.store.home()

    def put(self, changes):
        self.puts.append(dict(changes))
        self.store.put(changes)

    def sync(self):
        self.store.sync()


def watched(shape, slots=None, home=None):
    """A system over a watched store: a plain one, or one with a ring of so many slots."""
    home = home or shape.empty_home()
    store = PlainStore(home) if slots is None else fresh_store(shape.plates, slots, home)
    return System(shape, Watched(store))


def deeds_done(system):
    store = system.store.store
    return len(store.homes) - 1 if isinstance(store, PlainStore) else store.deeds


def state(system):
    """All that a call can change, by values."""
    handles = {number: dict(vars(handle)) for number, handle in system.handles.known.items()}
    views = {number: dict(vars(view)) for number, view in system.views.known.items()}
    return system.home(), list(system.counts), handles, views, deeds_done(system)


def always_holds(test, system):
    """What always holds of a system over a right home [65], but that views show their moments."""
    home, shape = system.home(), system.shape
    used = system.used(home)
    test.assertTrue(are_right(home, shape))
    test.assertEqual(system.counts, counts_of(home, shape, used))
    test.assertLessEqual(sum(system.counts), 85 * len(used))
    met_now = {block for file in used for block in met(home, shape, file)}
    read_now = set(system.draft().pins)
    test.assertEqual(set(free_blocks(system.draft())), set(range(shape.blocks)) - met_now - read_now)
    handles = list(system.handles.known.values())
    for number, handle in system.handles.known.items():
        test.assertTrue(0 <= number < 16 and 0 <= handle.at <= 600 and handle.file in used)
        test.assertIn(handle.kind, ("", "shared", "alone"))
    for alone in [handle for handle in handles if handle.kind == "alone"]:
        test.assertEqual({handle.user for handle in handles if handle.file == alone.file and handle.kind}, {alone.user})
    for number in system.views.known:
        test.assertTrue(0 <= number < 8)


class SystemCase(unittest.TestCase):
    """Tests of a system: `ok` and `no` do calls, and look at what came of them."""

    SHAPE = Shape(8, 12, 8, 40, 3)

    def setUp(self):
        self.begin()

    def begin(self, shape=None, slots=None, home=None):
        self.shape = shape or self.SHAPE
        self.system = watched(self.shape, slots, home)

    def ok(self, *call):
        """The answer of a call that is done, as one deed if it changes something."""
        self.system.store.puts.clear()
        before = state(self.system)
        verdict, answer = done(self.system, call)
        self.assertEqual(verdict, "ok", (call, answer))
        self.holds()
        home = self.system.home()
        changed = {plate: cells for plate, cells in home.items() if cells != before[0][plate]}
        self.assertEqual(self.system.store.puts, [changed] if changed else [], call)
        self.assertEqual(deeds_done(self.system) - before[4], 1 if changed else 0, call)
        if changed:
            self.assertIn(call[0], DEEDS)
            ticks = clock_at(home, self.shape) - clock_at(before[0], self.shape)
            self.assertEqual(ticks, 0 if call[0] == "shut" else 1, call)
        return answer

    def no(self, word, *call):
        """A call that is refused with a word, which changes nothing."""
        self.system.store.puts.clear()
        before = state(self.system)
        self.assertEqual(done(self.system, call), ("no", word), call)
        self.assertEqual(state(self.system), before, call)
        self.assertEqual(len(self.system.store.puts), 1 if word == "great" else 0)

    def deeds(self, many, *call):
        """The answer of a call that is so many deeds, 0 or 1."""
        before = deeds_done(self.system)
        answer = self.ok(*call)
        self.assertEqual(deeds_done(self.system) - before, many, call)
        return answer

    def all_ok(self, *calls):
        for call in calls:
            self.ok(*call)

    def opened(self, user, text, mode="write"):
        """The number of a handle on the file at a path."""
        return self.ok("open", user, path(text), mode)

    def written(self, user, text, many, owner=None):
        """A new file of a user with so many numbers."""
        self.ok("create", user, path(text))
        if many:
            number = self.opened(user, text)
            self.ok("write", user, number, tuple(range(1, many + 1)))
            self.ok("shut", user, number)

    def holds(self):
        always_holds(self, self.system)

    def tree(self):
        return tree_of(self.system.home(), self.shape)

    def root(self):
        return self.tree()[0]

    def times(self):
        """The time of each file, by its first name in the root."""
        return {entry[0]: entry[4] for entry in self.root() if entry[1] == "file"}
