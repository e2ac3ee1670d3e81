"""Ways that lead from files to blocks: a file, a place on its plate, then the places on the blocks behind it."""

from plugproof.readings import FIRST_POINTER, block_of, pointers_at


def ways_below(home, shape, pointer, level, way):
    """The triples (block, level, way) of what is met by a pointer to which a way leads."""
    block = block_of(shape, pointer)
    if block is None:
        return []
    ways = [(block, level, way)]
    if level > 0:
        for at, below in enumerate(home[shape.block_plate(block)]):
            ways.extend(ways_below(home, shape, below, level - 1, way + (at,)))
    return ways


def ways_of(home, shape, file):
    """The triples (block, level, way) of what is met by the five pointers of a file."""
    ways = []
    for at, (pointer, level) in enumerate(pointers_at(home, shape, file)):
        ways.extend(ways_below(home, shape, pointer, level, (file, FIRST_POINTER + at)))
    return ways
