"""Accounts: of each block, all that leads to it; a block is free, or it is shown why not."""

from plugproof.shape import is_whole
from plugproof.ways import ways_of


def account(system):
    """For each block the pair of the ways that lead to it and of the views that read it, both ascending tuples."""
    home = system.home()
    ways = [[] for _ in range(system.shape.blocks)]
    for file in system.used(home):
        for block, level, way in ways_of(home, system.shape, file):
            ways[block].append(way)
    return tuple([(tuple(sorted(ways[block])), system.views.readers(block)) for block in range(system.shape.blocks)])


def are_whole(thing):
    """Whether any thing is a tuple of whole numbers."""
    return isinstance(thing, tuple) and all([is_whole(number) for number in thing])


def is_pair(thing):
    """Whether any thing is a pair of a tuple of ways and a tuple of whole numbers."""
    if not isinstance(thing, tuple) or len(thing) != 2 or not isinstance(thing[0], tuple):
        return False
    return all([are_whole(way) for way in thing[0]]) and are_whole(thing[1])


def is_account(system, thing):
    """Whether any thing is the account of a system."""
    # True is no number, though it is equal to 1.
    if not isinstance(thing, tuple) or not all([is_pair(pair) for pair in thing]):
        return False
    return thing == account(system)
