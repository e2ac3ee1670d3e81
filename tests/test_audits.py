"""[58]: accounts, which show of each block why it is not free."""

import random
import unittest

from drawn import Caller
from homes import drawn_files, home_with
from systems import SystemCase, path

from plugproof.audits import account, is_account
from plugproof.calls import done
from plugproof.counted import free_blocks
from plugproof.plainstore import PlainStore
from plugproof.readings import met, named_files
from plugproof.shape import Shape
from plugproof.system import System


def plain_ways(home, shape, files):
    """A dict from blocks to the list of the ways to them, by the numbers on the plates alone."""
    ways = {block: [] for block in range(shape.blocks)}

    def walk(pointer, level, way):
        if 1 <= pointer <= shape.blocks:
            ways[pointer - 1].append(way)
            if level:
                for at in range(8):
                    walk(home[shape.first_block + pointer - 1][at], level - 1, way + (at,))

    for file in files:
        for at, level in ((3, 0), (4, 0), (5, 0), (6, 1), (7, 2)):
            walk(home[shape.first_file + file][at], level, (file, at))
    return ways


class AccountTest(SystemCase):
    SHAPE = Shape(6, 9, 6, 40, 2)

    def check(self, read):
        """Whether the account is that of the ways, with the blocks that each view reads: {number: blocks}."""
        home = self.system.home()
        ways = plain_ways(home, self.shape, self.system.used(home))
        told = account(self.system)
        self.assertEqual(told, tuple(
            (tuple(sorted(ways[block])), tuple(sorted(number for number in read if block in read[number])))
            for block in range(self.shape.blocks)
        ))
        self.assertIs(is_account(self.system, told), True)
        free = [block for block in range(self.shape.blocks) if told[block] == ((), ())]
        self.assertEqual(free, free_blocks(self.system.draft()))
        self.assertEqual([len(ways) for ways, _ in told], self.system.counts)
        return told

    def blocks(self):
        home = self.system.home()
        return {block for file in named_files(home, self.shape) for block in met(home, self.shape, file)}

    def test_of_an_empty_home(self):
        self.assertEqual(self.check({}), (((), ()),) * 40)

    def test_ways_at_each_level(self):
        self.written(0, "/a", 25)
        number = self.opened(0, "/a")
        self.ok("seek", 0, number, 599)
        self.ok("write", 0, number, (1,))
        self.assertEqual(self.check({})[:9], (
            (((0, 3),), ()), (((0, 4),), ()), (((0, 5),), ()), (((0, 6),), ()), (((0, 6, 0),), ()), (((0, 7),), ()), (((0, 7, 7),), ()),
            (((0, 7, 7, 7),), ()), ((), ()),
        ))

    def test_shared_blocks_and_views(self):
        self.written(0, "/a", 20)
        self.ok("view", 1)
        first = self.blocks()
        self.ok("copy", 1, path("/a"), path("/b"))
        number = self.opened(0, "/a")
        self.ok("cut", 0, number, 8)
        self.all_ok(("view", 0), ("view", 1))
        second = self.blocks()
        told = self.check({0: first, 1: second, 2: second})
        self.assertEqual(told[:3], ((((0, 3), (1, 3)), (0, 1, 2)), (((1, 4),), (0, 1, 2)), (((1, 5),), (0, 1, 2))))
        self.ok("end_view", 0, 1)
        self.assertEqual(self.check({0: first, 2: second})[0][1], (0, 2))

    def test_views_by_their_numbers(self):
        self.written(0, "/a", 9)
        self.all_ok(("view", 0), ("view", 1), ("view", 0), ("end_view", 0, 0), ("view", 1))
        self.assertEqual(self.check({0: {0, 1}, 1: {0, 1}, 2: {0, 1}})[0][1], (0, 1, 2))

    def test_blocks_that_only_a_view_reads(self):
        self.written(0, "/a", 9)
        self.ok("view", 1)
        self.ok("unlink", 0, path("/a"))
        self.assertEqual(self.check({0: {0, 1}})[:3], (((), (0,)), ((), (0,)), ((), ())))

    def test_open_files_without_names(self):
        self.written(0, "/a", 9)
        number = self.opened(0, "/a")
        self.ok("unlink", 0, path("/a"))
        self.assertEqual(self.check({})[:3], ((((0, 3),), ()), (((0, 4),), ()), ((), ())))
        self.ok("shut", 0, number)
        self.check({})

    def test_blocks_that_are_met_twice(self):
        home = home_with(self.SHAPE, {}, {0: (0, "a", 2)}, files={2: (30, 0, 0, 1, 1, 3, 2, 2)}, blocks={1: (1, 2, 0, 0, 0, 0, 1, 41)})
        self.begin(home=home)
        self.assertEqual(self.check({})[:3], (
            (((2, 3), (2, 4), (2, 6, 0), (2, 6, 6), (2, 7, 0), (2, 7, 1, 0), (2, 7, 1, 6), (2, 7, 6)), ()),
            (((2, 6), (2, 6, 1), (2, 7), (2, 7, 1), (2, 7, 1, 1)), ()), (((2, 5),), ()),
        ))

    def test_any_numbers(self):
        draw = random.Random(580)
        for _ in range(20):
            home = drawn_files(draw, self.SHAPE, 8)
            for row in range(4):
                home = {**home, self.SHAPE.first_row: tuple(1 + (at * 6 + draw.randrange(6)) for at in range(8))}
            self.begin(home=home)
            self.check({})

    def test_drawn_calls(self):
        draw = random.Random(58)
        most = 0
        for _ in range(15):
            self.begin(Shape(6, 9, 6, draw.choice((15, 60)), 2))
            caller = Caller(draw, 2, odd=0)
            read = {}
            for _ in range(200):
                call = caller.call(self.system, self.tree())
                if call[0] == "end_view" and draw.random() < 0.8:
                    continue
                answer = done(self.system, call)
                if call[0] == "view" and answer[0] == "ok":
                    read[answer[1]] = self.blocks()
                read = {number: blocks for number, blocks in read.items() if number in self.system.views.known}
                told = self.check(read)
                most = max([most] + [len(views) for _, views in told])
        self.assertGreater(most, 3)


class IsAccountTest(SystemCase):
    SHAPE = Shape(6, 9, 6, 12, 2)

    def setUp(self):
        self.begin()
        self.written(0, "/a", 30)
        self.all_ok(("copy", 0, path("/a"), path("/b")), ("view", 0), ("unlink", 0, path("/a")), ("view", 1))
        self.told = account(self.system)

    def without(self, told, at, pair):
        return told[:at] + (pair,) + told[at + 1:]

    def false(self, thing):
        self.assertIs(is_account(self.system, thing), False, thing)

    def test_it_is_the_account(self):
        self.assertIs(is_account(self.system, self.told), True)
        self.assertIs(is_account(self.system, tuple((tuple(ways), tuple(views)) for ways, views in self.told)), True)

    def test_things_near_it(self):
        for at, (ways, views) in enumerate(self.told):
            others = [(ways + ways, views), (ways, views + views), (list(ways), views), (ways, list(views)), [ways, views],
                      (ways, views, ()), (ways,), (views, ways), None, 0, True, (None, views), (ways, None), (0, views), (ways, 0),
                      ((None,), views), (ways, (None,)), (ways + ((5, 3),), views), (ways, views + (7,)), ((5,), views),
                      (ways[:-1], views), (ways, views[:-1]), (ways[::-1], views[::-1]),
                      (tuple(list(way) for way in ways), views), (ways, tuple(str(number) for number in views)),
                      (tuple(way + (0,) for way in ways), views), (ways, tuple(float(number) for number in views)),
                      (ways, tuple(number == 1 for number in views)), (tuple((way[0] == 1,) + way[1:] for way in ways), views)]
            for pair in others:
                told = self.without(self.told, at, pair)
                same = isinstance(pair, tuple) and pair == (ways, views) and not any(
                    isinstance(number, (bool, float)) for row in pair[0] + (pair[1],) for number in row)
                self.assertIs(is_account(self.system, told), same, pair)

    def test_ways_told_for_another_block(self):
        self.assertNotEqual(self.told[0], self.told[1])
        self.false((self.told[1], self.told[0]) + self.told[2:])

    def test_a_pair_too_few_or_too_many(self):
        self.false(self.told[:-1])
        self.false(self.told[1:])
        self.false(self.told + (((), ()),))
        self.false(())

    def test_other_kinds(self):
        for thing in (None, 0, True, "", list(self.told), dict(enumerate(self.told)), [list(pair) for pair in self.told], self.told[0]):
            self.false(thing)

    def test_true_for_1(self):
        told = tuple((tuple(tuple(True if number == 1 else number for number in way) for way in ways), views) for ways, views in self.told)
        self.assertEqual(told, self.told)
        self.false(told)
        told = tuple((ways, tuple(bool(number) for number in views)) for ways, views in self.told)
        self.assertEqual(told, self.told)
        self.false(told)

    def test_of_another_moment(self):
        self.ok("end_view", 1, 1)
        self.false(self.told)
        system = System(self.shape, PlainStore(self.system.home()))
        self.assertIs(is_account(system, account(system)), True)
        self.assertIs(is_account(system, self.told), False)


if __name__ == "__main__":
    unittest.main()
