"""Files of a draft: written, cut, grown, shared and dropped."""

from plugproof.counted import drop, own, share
from plugproof.errors import Refused
from plugproof.readings import FIRST_POINTER, LEVELS, SIZE_PLACE, TIME_PLACE
from plugproof.readings import block_of, numbers_at, pointers_at, size_at, spot_of
from plugproof.shape import MOST_SIZE, WIDTH, plates_for

# How many parts lie behind a pointer of each level.
PARTS_BEHIND = (1, 8, 64)


def own_at(draft, place):
    """The block of the pointer in a cell, made the file's own."""
    pointer = draft.cell(place)
    owned = own(draft, pointer)
    if owned != pointer:
        draft.put_cell(place, owned)
    return block_of(draft.shape, owned)


def own_data(draft, file, number):
    """The block of a part, made the file's own on the whole way, from the file's plate on."""
    plate = draft.shape.file_plate(file)
    block = None
    for at in spot_of(number):
        block = own_at(draft, (plate, at))
        plate = draft.shape.block_plate(block)
    return block


def put_size(draft, file, size):
    """A file has this size from now on."""
    draft.put_cell((draft.shape.file_plate(file), SIZE_PLACE), size)


def put_time(draft, file, time):
    """A file has this time from now on."""
    draft.put_cell((draft.shape.file_plate(file), TIME_PLACE), time)


def write_part(draft, file, number, start, numbers):
    """Those of some numbers that come to one part are put there; the first one stands at `start`."""
    plate = draft.shape.block_plate(own_data(draft, file, number))
    cells = list(draft.home[plate])
    for at in range(WIDTH):
        place = number * WIDTH + at - start
        if 0 <= place < len(numbers):
            cells[at] = numbers[place]
    draft.put(plate, tuple(cells))


def write(draft, file, start, numbers):
    """Some numbers, at least one, are put into a file from a place on."""
    end = start + len(numbers)
    if end > MOST_SIZE:
        raise Refused("long")
    if start > size_at(draft.home, draft.shape, file):
        grow(draft, file, start)
    for number in range(start // WIDTH, plates_for(end)):
        write_part(draft, file, number, start, numbers)
    put_size(draft, file, max(end, size_at(draft.home, draft.shape, file)))


def own_kept(draft, place, level, keep):
    """The blocks of pointers behind a cell that keep a part and lose one are made the file's own."""
    if not 0 < keep < PARTS_BEHIND[level] or block_of(draft.shape, draft.cell(place)) is None:
        return
    plate = draft.shape.block_plate(own_at(draft, place))
    behind = PARTS_BEHIND[level - 1]
    own_kept(draft, (plate, keep // behind), level - 1, keep % behind)


def drop_behind(draft, place, level, keep):
    """Of the parts behind the pointer in a cell all but the first so many go."""
    pointer = draft.cell(place)
    if keep >= PARTS_BEHIND[level]:
        return
    if keep <= 0:
        drop(draft, pointer, level)
        if pointer != 0:
            draft.put_cell(place, 0)
        return
    block = block_of(draft.shape, pointer)
    if block is not None:
        behind = PARTS_BEHIND[level - 1]
        for at in range(WIDTH):
            drop_behind(draft, (draft.shape.block_plate(block), at), level - 1, keep - at * behind)


def keep_parts(draft, file, keep):
    """All parts of a file but the first so many go, and the blocks of pointers that only they need."""
    plate = draft.shape.file_plate(file)
    # All that may be refused comes ahead of the first pointer that is dropped.
    first = 0
    for at, level in enumerate(LEVELS):
        own_kept(draft, (plate, FIRST_POINTER + at), level, keep - first)
        first = first + PARTS_BEHIND[level]
    first = 0
    for at, level in enumerate(LEVELS):
        drop_behind(draft, (plate, FIRST_POINTER + at), level, keep - first)
        first = first + PARTS_BEHIND[level]


def has_rest(home, shape, file, size):
    """Whether some number behind a size in its last part is not 0."""
    rest = numbers_at(home, shape, file, size, plates_for(size) * WIDTH)
    return any([number != 0 for number in rest])


def clear_behind(draft, file, size):
    """The numbers behind a size in its last part become 0, if they are not."""
    if has_rest(draft.home, draft.shape, file, size):
        write_part(draft, file, size // WIDTH, size, (0,) * (plates_for(size) * WIDTH - size))


def grow(draft, file, size):
    """A file gets this greater size; what comes to it is 0, whatever stood there."""
    old = size_at(draft.home, draft.shape, file)
    if size > old:
        clear_behind(draft, file, old)
        keep_parts(draft, file, plates_for(old))
        put_size(draft, file, min(size, MOST_SIZE))


def cut(draft, file, size):
    """A file has this size from now on; what is behind it is gone."""
    if size > MOST_SIZE:
        raise Refused("long")
    if size > size_at(draft.home, draft.shape, file):
        grow(draft, file, size)
    else:
        keep_parts(draft, file, plates_for(size))
        put_size(draft, file, size)


def put_file(draft, file, told, pointers):
    """A file's plate gets its size, owner and time, and these pointers."""
    draft.put(draft.shape.file_plate(file), told + pointers)


def empty_file(draft, file, owner, time):
    """A file that did not count is a new one, of size 0."""
    put_file(draft, file, (0, owner, time), (0,) * len(LEVELS))


def drop_file(draft, file):
    """All that a file meets is counted one less; its plate is 0s."""
    for pointer, level in pointers_at(draft.home, draft.shape, file):
        drop(draft, pointer, level)
    draft.put(draft.shape.file_plate(file), (0,) * WIDTH)


def share_file(draft, file, late, owner, time):
    """The file `late`, which did not count, gets the size and the pointers of another one."""
    pointers = pointers_at(draft.home, draft.shape, file)
    for pointer, level in pointers:
        share(draft, pointer, level)
    size = size_at(draft.home, draft.shape, file)
    put_file(draft, late, (size, owner, time), tuple([pointer for pointer, level in pointers]))
