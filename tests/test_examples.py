"""The examples of the document, word for word, and those of README.md."""

import doctest
import pathlib
import unittest

README = pathlib.Path(__file__).resolve().parent.parent / "README.md"

STORE = """
>>> from plugproof.store import fresh_store, open_store
>>> store = fresh_store(2, 3, {0: (0,) * 8, 1: (0,) * 8})
>>> store.put({0: (1,) * 8})
>>> store.put({0: (2,) * 8, 1: (7,) * 8})
>>> store.push()
>>> store.trace
(('write', 2, (0, 0, 2, 0, 2, 2, 2, 2, 2, 2, 2, 2)), ('write', 3, (0, 1, 2, 1, 7, 7, 7, 7, 7, 7, 7, 7)))
>>> open_store(store.disk().fallen({2: 1, 3: -1}), 2, 3).home()[0], open_store(store.disk().fallen({2: 1, 3: 1}), 2, 3).home()[0]
((0, 0, 0, 0, 0, 0, 0, 0), (2, 2, 2, 2, 2, 2, 2, 2))
"""

TWINS = """
>>> from plugproof.twins import fallen_twins, fresh_twins, open_twins, opened_twins
>>> twins = fresh_twins(2, 3, {0: (0,) * 8, 1: (0,) * 8})
>>> twins.store.put({0: (5,) * 8, 1: (6,) * 8})
>>> twins.store.push()
>>> opened_twins(twins, twins.moments(), ({2: 1}, {3: 1})), opened_twins(twins, twins.moments(), ({2: 1, 3: -1}, None))
(1, 0)
>>> open_twins(fallen_twins(twins, twins.moments(), ({2: 1}, {3: 1})), 2, 3).store.home()[1]
(6, 6, 6, 6, 6, 6, 6, 6)
"""

FALLS = """
>>> from plugproof.falls import can_open, choice_for, opened_deeds
>>> from plugproof.store import fresh_store
>>> store = fresh_store(1, 4, {0: (0,) * 8})
>>> store.put({0: (1,) * 8})
>>> store.push()
>>> store.put({0: (2,) * 8})
>>> store.sync()
>>> store.put({0: (3,) * 8})
>>> store.push()
>>> can_open(store, 2), can_open(store, 3), can_open(store, 4)
((0, 1, 2), (2,), (2, 3))
>>> choice_for(store, 2, 1), opened_deeds(store, 2, {3: 1}), opened_deeds(store, 4, {2: 0, 4: 1})
({2: 1}, 0, 3)
"""

MENDING = """
>>> from plugproof.mending import mended
>>> from plugproof.parts import count_lots, least_price
>>> from plugproof.shape import NAMES, Shape
>>> shape = Shape(5, 1, 1, 1, 1)
>>> home = shape.empty_home()
>>> home[1] = (0, 0, 1 + 3 * NAMES, 1 + 4 * NAMES, 1 + 2 * NAMES, 0, 0, 0)
>>> least_price(shape, home, {}), count_lots(shape, home, {})
(1, 3)
>>> mended(shape, home, {("dir", 2): 5, ("dir", 3): 4}).units
(('dir', 4),)
>>> from plugproof.papers import Paper, paper_holds, paper_of
>>> paper = paper_of(shape, home, {})
>>> paper.needs, [(part.kind, part.dirs) for part in paper.parts]
((1,), [('ring', (2, 3, 4))])
>>> paper_holds(shape, home, {}, paper), paper_holds(shape, home, {}, Paper(paper.parts, paper.needs, ()))
(True, False)
"""


class ExamplesTest(unittest.TestCase):
    def holds(self, text):
        example = doctest.DocTestParser().get_doctest(text, {}, self.id(), None, 0)
        self.assertGreater(len(example.examples), 0)
        told = []
        results = doctest.DocTestRunner(verbose=False).run(example, out=told.append)
        self.assertEqual(results.failed, 0, "".join(told))

    def test_store(self):
        self.holds(STORE)

    def test_twins(self):
        self.holds(TWINS)

    def test_falls(self):
        self.holds(FALLS)

    def test_mending(self):
        self.holds(MENDING)

    def test_readme(self):
        blocks = README.read_text().split("```")[1::2]
        self.holds("".join(block for block in blocks if block.startswith("\n>>> ")))


if __name__ == "__main__":
    unittest.main()
