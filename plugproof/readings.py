"""What the plates of a home say, whatever cells stand there."""

from plugproof.shape import FOUND, MOST_BLOCKS, MOST_SIZE, NAMES, ROOT, WIDTH, name_of, plates_for

FIRST_DIR = 2

# The places on a file's plate; behind them stand its pointers, of these levels.
SIZE_PLACE = 0
OWNER_PLACE = 1
TIME_PLACE = 2
FIRST_POINTER = 3
LEVELS = (0, 0, 0, 1, 2)

# The parts that begin behind a block of pointers, and behind a block of such blocks.
FIRST_BY_ONE = 3
FIRST_BY_TWO = 11

DIR_KIND = 0
ROW_KIND = 1


def cell_at(home, place):
    """What stands in a cell: a pair (plate, place on it)."""
    plate, at = place
    return home[plate][at]


def dir_value(up, name):
    """What stands in the cell of a directory that lies here by the name with this number."""
    return 1 + up * NAMES + name


def row_value(shape, up, name, file):
    """What stands in the cell of a row that gives a file this name here."""
    return 1 + (up * NAMES + name) * shape.files + file


def dir_at(home, shape, number):
    """Where a directory lies: (up, name's number); None for a free one, the root and found."""
    if not FIRST_DIR <= number < shape.dirs:
        return None
    value = cell_at(home, shape.dir_cell(number))
    if value < 1:
        return None
    return (value - 1) // NAMES, (value - 1) % NAMES


def row_at(home, shape, number):
    """What a row says: (up, name's number, file); None for a free one."""
    if not 0 <= number < shape.rows:
        return None
    value = cell_at(home, shape.row_cell(number))
    if value < 1:
        return None
    place = (value - 1) // shape.files
    return place // NAMES, place % NAMES, (value - 1) % shape.files


def is_dir(home, shape, number):
    """Whether a directory with this number, any whole one, is used."""
    return number in (ROOT, FOUND) or dir_at(home, shape, number) is not None


def dirs_of(home, shape):
    """The pairs (number, what dir_at tells) of the used directories from 2 on, ascending."""
    told = [(number, dir_at(home, shape, number)) for number in range(FIRST_DIR, shape.dirs)]
    return [(number, place) for number, place in told if place is not None]


def rows_of(home, shape):
    """The pairs (number, what row_at tells) of the rows that are not free, ascending."""
    told = [(number, row_at(home, shape, number)) for number in range(shape.rows)]
    return [(number, row) for number, row in told if row is not None]


def named_files(home, shape):
    """The ascending list of the files that some row has, wherever it lies."""
    named = [row[2] for number, row in rows_of(home, shape)]
    return [file for file in range(shape.files) if file in named]


def file_cell(home, shape, file, place):
    """What stands at a place of a file's plate."""
    return home[shape.file_plate(file)][place]


def size_at(home, shape, file):
    """How many numbers a file has: the nearest number from 0 to 600."""
    return max(0, min(MOST_SIZE, file_cell(home, shape, file, SIZE_PLACE)))


def owner_at(home, shape, file):
    """The user who owns a file, 0 if what stands there is none."""
    owner = file_cell(home, shape, file, OWNER_PLACE)
    return owner if 0 <= owner < shape.users else 0


def time_at(home, shape, file):
    """The time of a file."""
    return file_cell(home, shape, file, TIME_PLACE)


def clock_at(home, shape):
    """What the clock says."""
    return cell_at(home, shape.clock_cell())


def limit_at(home, shape, user):
    """How many blocks a user may have."""
    return cell_at(home, shape.user_cell(user))


def block_of(shape, pointer):
    """The block to which a pointer leads, None for a hole."""
    return pointer - 1 if 1 <= pointer <= shape.blocks else None


def spot_of(number):
    """The places by which one comes to a part: on the file's plate, then on the blocks behind it."""
    if number < FIRST_BY_ONE:
        return (FIRST_POINTER + number,)
    if number < FIRST_BY_TWO:
        return FIRST_POINTER + 3, number - FIRST_BY_ONE
    behind = number - FIRST_BY_TWO
    return FIRST_POINTER + 4, behind // WIDTH, behind % WIDTH


def block_at(home, shape, file, spot):
    """The block to which places lead, the first one on a file's plate; None for a hole or behind one."""
    block = None
    plate = shape.file_plate(file)
    for place in spot:
        block = block_of(shape, home[plate][place])
        if block is None:
            return None
        plate = shape.block_plate(block)
    return block


def data_block(home, shape, file, number):
    """The block of a part, None for a hole or behind one."""
    # No pointer leads to parts beyond the last: they are holes, too.
    if not 0 <= number < MOST_BLOCKS:
        return None
    return block_at(home, shape, file, spot_of(number))


def part_at(home, shape, file, number):
    """The eight numbers of a part."""
    block = data_block(home, shape, file, number)
    return (0,) * WIDTH if block is None else home[shape.block_plate(block)]


def numbers_at(home, shape, file, start, end):
    """The numbers of a file from one place to another, whatever its size is."""
    first = start // WIDTH
    numbers = []
    for part in range(first, plates_for(end)):
        numbers.extend(part_at(home, shape, file, part))
    ahead = first * WIDTH
    return tuple(numbers[start - ahead:max(start, end) - ahead])


def content_of(home, shape, file):
    """All numbers of a file."""
    return numbers_at(home, shape, file, 0, size_at(home, shape, file))


def pointers_at(home, shape, file):
    """The five pairs (pointer, level) of a file."""
    return list(zip(home[shape.file_plate(file)][FIRST_POINTER:], LEVELS))


def met_below(home, shape, pointer, level):
    """The blocks met by a pointer, a block that is met on two ways twice."""
    block = block_of(shape, pointer)
    if block is None:
        return []
    blocks = [block]
    if level > 0:
        for below in home[shape.block_plate(block)]:
            blocks.extend(met_below(home, shape, below, level - 1))
    return blocks


def met(home, shape, file):
    """The blocks met by the five pointers of a file."""
    blocks = []
    for pointer, level in pointers_at(home, shape, file):
        blocks.extend(met_below(home, shape, pointer, level))
    return blocks


def counts_of(home, shape, files):
    """The list of how often each block is met in these files."""
    counts = [0] * shape.blocks
    for file in files:
        for block in met(home, shape, file):
            counts[block] = counts[block] + 1
    return counts


def usage_of(home, shape, files, user):
    """How many blocks, ways counted, are met in those of these files that a user owns."""
    return sum([len(met(home, shape, file)) for file in files if owner_at(home, shape, file) == user])


def children_by_up(home, shape):
    """A dict from directories to the triples (name's number, kind, number) of what lies beneath them."""
    children = {}
    for number, place in dirs_of(home, shape):
        children.setdefault(place[0], []).append((place[1], DIR_KIND, number))
    for number, row in rows_of(home, shape):
        children.setdefault(row[0], []).append((row[1], ROW_KIND, number))
    return children


def told_file(home, shape, file, which):
    """What a tree tells of a file, behind its name."""
    numbers = content_of(home, shape, file)
    return "file", which, owner_at(home, shape, file), time_at(home, shape, file), numbers


def told_dir(home, shape, children, which, up):
    """What a directory holds; `which` has the files come to so far, and gets those come to here."""
    told = []
    for name, kind, number in sorted(children.get(up, [])):
        if kind == DIR_KIND:
            told.append((name_of(name), "dir", told_dir(home, shape, children, which, number)))
        else:
            file = row_at(home, shape, number)[2]
            met_as = which.setdefault(file, len(which))
            told.append((name_of(name),) + told_file(home, shape, file, met_as))
    return tuple(told)


def tree_of(home, shape):
    """The pair of what the root holds and what found holds."""
    children = children_by_up(home, shape)
    which = {}
    in_root = told_dir(home, shape, children, which, ROOT)
    return in_root, told_dir(home, shape, children, which, FOUND)
