"""A home moved to another shape: the same tree, all that is used numbered anew, without gaps."""

from plugproof.drafts import Draft
from plugproof.errors import Refused
from plugproof.names import put_dir, put_row
from plugproof.readings import FIRST_DIR, block_of, clock_at, dirs_of, limit_at, named_files, owner_at, pointers_at
from plugproof.readings import rows_of, size_at, time_at
from plugproof.shape import FOUND, ROOT
from plugproof.ways import ways_of


def levels_of(home, shape):
    """The ascending list of the pairs (block, level) of all that is met in the named files, each once."""
    levels = {}
    for file in named_files(home, shape):
        for block, level, way in ways_of(home, shape, file):
            levels[(block, level)] = True
    return sorted(levels)


def blocks_met(home, shape):
    """A dict whose keys are the blocks met in the named files, ascending."""
    return {block: True for block, level in levels_of(home, shape)}


def used_many(home, shape):
    """How many directories (but the first two), rows, files and blocks are used."""
    files = named_files(home, shape)
    return len(dirs_of(home, shape)), len(rows_of(home, shape)), len(files), len(blocks_met(home, shape))


def check_moved(home, shape, late):
    """Refused if a home cannot be moved to the late shape."""
    if len(levels_of(home, shape)) > len(blocks_met(home, shape)):
        raise Refused("levels")
    if any([owner_at(home, shape, file) >= late.users for file in named_files(home, shape)]):
        raise Refused("users")
    room = (late.dirs - FIRST_DIR, late.rows, late.files, late.blocks)
    if any([used > most for used, most in zip(used_many(home, shape), room)]):
        raise Refused("full")


def numbered(things, first):
    """A dict from things, in their order, to the numbers from the first one on."""
    return {thing: first + at for at, thing in enumerate(things)}


def moved_pointers(shape, blocks, pointers):
    """A tuple of pointers that lead to the new numbers of blocks; 0 for holes."""
    met = [block_of(shape, pointer) for pointer in pointers]
    return tuple([0 if block is None else 1 + blocks[block] for block in met])


def move_cells(draft, home, shape):
    """The clock and the limits of a home come to the draft of another shape."""
    late = draft.shape
    draft.put_cell(late.clock_cell(), clock_at(home, shape))
    for user in range(min(shape.users, late.users)):
        draft.put_cell(late.user_cell(user), min(limit_at(home, shape, user), late.blocks))


def move_names(draft, home, shape, files):
    """The directories and rows of a home come to the draft of another shape."""
    dirs = numbered([ROOT, FOUND] + [number for number, place in dirs_of(home, shape)], 0)
    for number, (up, name) in dirs_of(home, shape):
        put_dir(draft, dirs[number], dirs[up], name)
    for at, (number, (up, name, file)) in enumerate(rows_of(home, shape)):
        put_row(draft, at, dirs[up], name, files[file])


def move_files(draft, home, shape, files):
    """The named files of a home, and all blocks that they meet, come to the draft of another shape."""
    blocks = numbered(blocks_met(home, shape), 0)
    for file in files:
        told = (size_at(home, shape, file), owner_at(home, shape, file), time_at(home, shape, file))
        pointers = [pointer for pointer, level in pointers_at(home, shape, file)]
        draft.put(draft.shape.file_plate(files[file]), told + moved_pointers(shape, blocks, pointers))
    for block, level in levels_of(home, shape):
        cells = home[shape.block_plate(block)]
        plate = cells if level == 0 else moved_pointers(shape, blocks, cells)
        draft.put(draft.shape.block_plate(blocks[block]), plate)


def moved(home, shape, late):
    """A new home, of the late shape, with the tree of a right home."""
    check_moved(home, shape, late)
    draft = Draft(late, late.empty_home(), [0] * late.blocks, {})
    files = numbered(named_files(home, shape), 0)
    move_cells(draft, home, shape)
    move_names(draft, home, shape, files)
    move_files(draft, home, shape, files)
    return draft.home
