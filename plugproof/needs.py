"""Room: how much of each kind is free, and how much of each kind calls need."""

from plugproof.counted import free_blocks, is_own
from plugproof.files import has_rest
from plugproof.readings import DIR_KIND, FIRST_DIR, ROW_KIND, block_at, children_by_up, dirs_of, rows_of, size_at
from plugproof.readings import spot_of
from plugproof.shape import MOST_BLOCKS, MOST_SIZE, WIDTH, plates_for


class Room:
    """So many blocks, directories, rows and files."""

    def __init__(self, blocks, dirs, rows, files):
        self.blocks = blocks
        self.dirs = dirs
        self.rows = rows
        self.files = files

    def __eq__(self, other):
        return isinstance(other, Room) and self.told() == other.told()

    def told(self):
        """The four numbers that the room was made with."""
        return self.blocks, self.dirs, self.rows, self.files

    def is_enough(self, need):
        """Whether none of the numbers is less than that of a need."""
        return all([free >= needed for free, needed in zip(self.told(), need.told())])


def free_room(system):
    """What is free: blocks that are met in no file in use and read by no view, and files that are not in use."""
    draft = system.draft()
    home, shape = draft.home, draft.shape
    dirs = shape.dirs - FIRST_DIR - len(dirs_of(home, shape))
    rows = shape.rows - len(rows_of(home, shape))
    return Room(len(free_blocks(draft)), dirs, rows, shape.files - len(system.used(home)))


def things_below(children, number):
    """The list of the kinds of all things beneath a directory."""
    kinds = []
    for name, kind, child in children.get(number, []):
        kinds.append(kind)
        if kind == DIR_KIND:
            kinds.extend(things_below(children, child))
    return kinds


def need_of_copy(system, kind, number):
    """What a copy of a directory (kind 0) or a row (kind 1) needs; not a single block."""
    if kind == ROW_KIND:
        return Room(0, 0, 1, 1)
    kinds = things_below(children_by_up(system.home(), system.shape), number)
    rows = kinds.count(ROW_KIND)
    return Room(0, 1 + kinds.count(DIR_KIND), rows, rows)


def spots_to(number):
    """The spots of all blocks by which one comes to a part, its own one last."""
    spot = spot_of(number)
    return [spot[:many] for many in range(1, len(spot) + 1)]


def kept_spots(draft, file, keep):
    """The spots of the blocks of pointers that keep a part and lose one, when but so many parts stay."""
    if not 0 < keep < MOST_BLOCKS:
        return []
    spots = [spot for spot in spots_to(keep) if spot in spots_to(keep - 1)]
    return [spot for spot in spots if block_at(draft.home, draft.shape, file, spot) is not None]


def grown_spots(draft, file):
    """The spots of the blocks that are made a file's own when it grows."""
    size = size_at(draft.home, draft.shape, file)
    keep = plates_for(size)
    spots = kept_spots(draft, file, keep)
    return spots + spots_to(keep - 1) if has_rest(draft.home, draft.shape, file, size) else spots


def need_of_own(draft, file, spots):
    """The room that is needed to make the blocks at some spots a file's own; a hole needs one, too."""
    unlike = {spot: True for spot in spots}
    blocks = [block_at(draft.home, draft.shape, file, spot) for spot in unlike]
    return Room(len([block for block in blocks if block is None or not is_own(draft, block)]), 0, 0, 0)


def need_of_write(system, file, start, many):
    """What it needs to write so many numbers into a file from a place on."""
    draft = system.draft()
    if many == 0:
        return Room(0, 0, 0, 0)
    spots = []
    if start > size_at(draft.home, draft.shape, file):
        spots.extend(grown_spots(draft, file))
    for number in range(start // WIDTH, plates_for(min(start + many, MOST_SIZE))):
        spots.extend(spots_to(number))
    return need_of_own(draft, file, spots)


def need_of_cut(system, file, size):
    """What it needs to cut a file to a size, or to let it grow to one."""
    draft = system.draft()
    if size > size_at(draft.home, draft.shape, file):
        return need_of_own(draft, file, grown_spots(draft, file))
    return need_of_own(draft, file, kept_spots(draft, file, plates_for(size)))
