"""The examples of the document, word for word, and those of README.md."""

import doctest
import pathlib
import unittest

README = pathlib.Path(__file__).resolve().parent.parent / "README.md"

STORE = """
>>> from plugproof.store import fresh_store, open_store
>>> store = fresh_store(2, 3, {0: (0,) * 8, 1: (0,) * 8})
>>> store.put({0: (1,) * 8})
>>> store.put({0: (2,) * 8, 1: (7,) * 8})
>>> store.push()
>>> store.trace
(('write', 2, (0, 0, 2, 0, 2, 2, 2, 2, 2, 2, 2, 2)), ('write', 3, (0, 1, 2, 1, 7, 7, 7, 7, 7, 7, 7, 7)))
>>> open_store(store.disk().fallen({2: 1, 3: -1}), 2, 3).home()[0], open_store(store.disk().fallen({2: 1, 3: 1}), 2, 3).home()[0]
((0, 0, 0, 0, 0, 0, 0, 0), (2, 2, 2, 2, 2, 2, 2, 2))
"""

TWINS = """
>>> from plugproof.twins import fallen_twins, fresh_twins, open_twins, opened_twins
>>> twins = fresh_twins(2, 3, {0: (0,) * 8, 1: (0,) * 8})
>>> twins.store.put({0: (5,) * 8, 1: (6,) * 8})
>>> twins.store.push()
>>> opened_twins(twins, twins.moments(), ({2: 1}, {3: 1})), opened_twins(twins, twins.moments(), ({2: 1, 3: -1}, None))
(1, 0)
>>> open_twins(fallen_twins(twins, twins.moments(), ({2: 1}, {3: 1})), 2, 3).store.home()[1]
(6, 6, 6, 6, 6, 6, 6, 6)
"""

FALLS = """
>>> from plugproof.falls import can_open, choice_for, opened_deeds
>>> from plugproof.store import fresh_store
>>> store = fresh_store(1, 4, {0: (0,) * 8})
>>> store.put({0: (1,) * 8})
>>> store.push()
>>> store.put({0: (2,) * 8})
>>> store.sync()
>>> store.put({0: (3,) * 8})
>>> store.push()
>>> can_open(store, 2), can_open(store, 3), can_open(store, 4)
((0, 1, 2), (2,), (2, 3))
>>> choice_for(store, 2, 1), opened_deeds(store, 2, {3: 1}), opened_deeds(store, 4, {2: 0, 4: 1})
({2: 1}, 0, 3)
"""

MENDING = """
>>> from plugproof.mending import mended
>>> from plugproof.parts import count_lots, least_price
>>> from plugproof.shape import NAMES, Shape
>>> shape = Shape(5, 1, 1, 1, 1)
>>> home = shape.empty_home()
>>> home[1] = (0, 0, 1 + 3 * NAMES, 1 + 4 * NAMES, 1 + 2 * NAMES, 0, 0, 0)
>>> least_price(shape, home, {}), count_lots(shape, home, {})
(1, 3)
>>> mended(shape, home, {("dir", 2): 5, ("dir", 3): 4}).units
(('dir', 4),)
>>> from plugproof.papers import Paper, paper_holds, paper_of
>>> paper = paper_of(shape, home, {})
>>> paper.needs, [(part.kind, part.dirs) for part in paper.parts]
((1,), [('ring', (2, 3, 4))])
>>> paper_holds(shape, home, {}, paper), paper_holds(shape, home, {}, Paper(paper.parts, paper.needs, ()))
(True, False)
"""

MORNING = """
>>> from plugproof.audits import account
>>> from plugproof.calls import done
>>> from plugproof.plainstore import PlainStore
>>> from plugproof.readings import tree_of
>>> from plugproof.shape import Shape
>>> from plugproof.system import System
>>> shape = Shape(4, 4, 3, 6, 2)
>>> system = System(shape, PlainStore(shape.empty_home()))
>>> [done(system, call)[0] for call in (("make", 0, ("a",)), ("create", 1, ("a", "b")), ("open", 1, ("a", "b"), "write"))]
['ok', 'ok', 'ok']
>>> done(system, ("write", 1, 0, (5, 7))), tree_of(system.home(), shape)
(('ok', None), ((('a', 'dir', (('b', 'file', 0, 1, 3, (5, 7)),)),), ()))
>>> done(system, ("copy", 0, ("a",), ("c",))), system.free_many()
(('ok', None), 5)
>>> done(system, ("view", 0)), done(system, ("cut", 1, 0, 0)), done(system, ("view_read", 0, 0, ("a", "b")))
(('ok', 0), ('ok', None), ('ok', (5, 7)))
>>> done(system, ("open", 0, ("c", "b"), "append")), done(system, ("write", 0, 1, (9,)))
(('ok', 1), ('ok', None))
>>> tree_of(system.home(), shape)[0]
(('a', 'dir', (('b', 'file', 0, 1, 5, ()),)), ('c', 'dir', (('b', 'file', 1, 0, 6, (5, 7, 9)),)))
>>> system.free_many(), done(system, ("end_view", 0, 0)), system.free_many()
(4, ('ok', None), 5)
>>> account(system)[:2]
(((), ()), (((1, 3),), ()))
>>> done(system, ("unlink", 1, ("c", "b"))), done(system, ("seek", 0, 1, 0)), done(system, ("read", 0, 1, 9))
(('ok', None), ('ok', None), ('ok', (5, 7, 9)))
>>> system.free_many(), done(system, ("shut", 0, 1)), system.free_many()
(5, ('ok', None), 6)
"""

NEEDS = """
>>> from plugproof.needs import free_room, need_of_write
>>> from plugproof.plainstore import PlainStore
>>> from plugproof.scripts import run_script
>>> from plugproof.shape import Shape
>>> from plugproof.system import System
>>> shape = Shape(4, 4, 3, 6, 2)
>>> system = System(shape, PlainStore(shape.empty_home()))
>>> run_script(system, "0 create /x")
'ok -'
>>> need_of_write(system, 0, 30, 1).told(), free_room(system).told()
((2, 0, 0, 0), (6, 2, 3, 2))
"""

REBUILDING = r"""
>>> from plugproof.plainstore import PlainStore
>>> from plugproof.rebuilding import calls_of
>>> from plugproof.scripts import run_script
>>> from plugproof.shape import Shape
>>> from plugproof.system import System
>>> shape = Shape(4, 4, 3, 6, 2)
>>> system = System(shape, PlainStore(shape.empty_home()))
>>> run_script(system, "0 make /c\n0 make /a\n1 create /a/b\n0 link /a/b /d")
'ok -\nok -\nok -\nok -'
>>> calls_of(system.home(), shape)
(('make', 0, ('a',)), ('create', 1, ('a', 'b')), ('make', 0, ('c',)), ('link', 0, ('a', 'b'), ('d',)))
"""

SCRIPTS = r"""
>>> from plugproof.plainstore import PlainStore
>>> from plugproof.scripts import run_script
>>> from plugproof.shape import Shape
>>> from plugproof.system import System
>>> shape = Shape(4, 4, 3, 6, 2)
>>> system = System(shape, PlainStore(shape.empty_home()))
>>> run_script(system, "0 make /a\n1 create /a/b\n1 open /a/b write\n1 write 0 5,7\n0 tell /a/b\n0 move /a /a/c")
'ok -\nok -\nok 0\nok -\nok (file 1 3 2 1)\nno loop'
"""


class ExamplesTest(unittest.TestCase):
    def holds(self, text):
        example = doctest.DocTestParser().get_doctest(text, {}, self.id(), None, 0)
        self.assertGreater(len(example.examples), 0)
        told = []
        results = doctest.DocTestRunner(verbose=False).run(example, out=told.append)
        self.assertEqual(results.failed, 0, "".join(told))

    def test_store(self):
        self.holds(STORE)

    def test_twins(self):
        self.holds(TWINS)

    def test_falls(self):
        self.holds(FALLS)

    def test_mending(self):
        self.holds(MENDING)

    def test_morning(self):
        self.holds(MORNING)

    def test_needs(self):
        self.holds(NEEDS)

    def test_rebuilding(self):
        self.holds(REBUILDING)

    def test_scripts(self):
        self.holds(SCRIPTS)

    def test_readme(self):
        blocks = README.read_text().split("```")[1::2]
        self.holds("".join(block for block in blocks if block.startswith("\n>>> ")))


if __name__ == "__main__":
    unittest.main()
