"""Blocks of a draft that are free, taken, made own, shared and dropped."""

from plugproof.errors import Refused
from plugproof.readings import block_of, met_below
from plugproof.shape import WIDTH


def is_free(draft, block):
    """Whether a block is met in no file that counts, and read by no view."""
    return draft.count(block) == 0 and block not in draft.pins


def free_blocks(draft):
    """The ascending list of the free blocks."""
    return [block for block in range(draft.shape.blocks) if is_free(draft, block)]


def take(draft, plate):
    """A pointer to the least free block, which gets these cells and is met once now."""
    free = free_blocks(draft)
    if len(free) == 0:
        raise Refused("full")
    draft.put_count(free[0], 1)
    draft.put(draft.shape.block_plate(free[0]), plate)
    return free[0] + 1


def is_own(draft, block):
    """Whether a block is met by one way alone, and read by no view."""
    return draft.count(block) == 1 and block not in draft.pins


def own(draft, pointer):
    """A pointer to a block with the same cells that is met by this way alone, and read by no view."""
    block = block_of(draft.shape, pointer)
    if block is None:
        return take(draft, (0,) * WIDTH)
    if is_own(draft, block):
        return pointer
    late = take(draft, draft.home[draft.shape.block_plate(block)])
    # What lies behind it keeps its counts: those ways lead through the copy now.
    draft.put_count(block, draft.count(block) - 1)
    return late


def count_ways(draft, pointer, level, more):
    """All that is met by a pointer is counted so much more, way by way."""
    for block in met_below(draft.home, draft.shape, pointer, level):
        draft.put_count(block, draft.count(block) + more)


def share(draft, pointer, level):
    """All that is met by a pointer is counted one more, way by way."""
    count_ways(draft, pointer, level, 1)


def drop(draft, pointer, level):
    """All that is met by a pointer is counted one less, way by way."""
    count_ways(draft, pointer, level, -1)
