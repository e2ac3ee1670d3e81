"""Homes put together by hand or drawn, for the tests of what reads and mends them."""

import itertools

from plugproof.shape import NAMES, number_of

FAULTY_NAMES = ("a", "b", "zzzz")


def dir_value(up, name):
    return 1 + up * NAMES + number_of(name)


def row_value(shape, up, name, file):
    return 1 + (up * NAMES + number_of(name)) * shape.files + file


def put_cell(home, place, value):
    plate, at = place
    home[plate] = home[plate][:at] + (value,) + home[plate][at + 1:]


def home_with(shape, dirs=None, rows=None, files=None, blocks=None):
    """A home: dirs {number: (up, name)}, rows {number: (up, name, file)}, plates of files and of blocks."""
    home = shape.empty_home()
    for number, (up, name) in (dirs or {}).items():
        put_cell(home, shape.dir_cell(number), dir_value(up, name))
    for number, (up, name, file) in (rows or {}).items():
        put_cell(home, shape.row_cell(number), row_value(shape, up, name, file))
    for file, plate in (files or {}).items():
        home[shape.file_plate(file)] = plate
    for block, plate in (blocks or {}).items():
        home[shape.block_plate(block)] = plate
    return home


def units(shape):
    return [("dir", j) for j in range(2, shape.dirs)] + [("row", i) for i in range(shape.rows)]


def unit_place(shape, unit):
    """The pair (plate, place on it) of a unit's cell."""
    return shape.dir_cell(unit[1]) if unit[0] == "dir" else shape.row_cell(unit[1])


def value_of(shape, home, unit):
    plate, at = unit_place(shape, unit)
    return home[plate][at]


def told_place(shape, home, unit):
    """(up, name's number) of a unit, or None."""
    value = value_of(shape, home, unit)
    if value < 1:
        return None
    return divmod((value - 1) // (1 if unit[0] == "dir" else shape.files), NAMES)


def drawn_value(draw, shape, kind):
    """What may stand in a unit's cell: free, or somewhere, at times where nothing is."""
    if draw.random() < 0.2:
        return draw.choice((0, 0, -1, -NAMES))
    up, name = draw.randrange(shape.dirs + 1), draw.choice(FAULTY_NAMES[:draw.choice((1, 2, 3))])
    if kind == "dir":
        return dir_value(up, name)
    return row_value(shape, up, name, draw.randrange(shape.files))


def drawn_home(draw, shape):
    """A home with any units."""
    home = shape.empty_home()
    for unit in units(shape):
        put_cell(home, unit_place(shape, unit), drawn_value(draw, shape, unit[0]))
    return home


def drawn_prices(draw, shape):
    """Prices for some of the units; at times all alike."""
    most = draw.choice((1, 2, 3, 9))
    return {unit: draw.randint(1, most) for unit in units(shape) if draw.random() < 0.7}


def moved(shape, home, lot):
    """A new home with a lot of units in found, by the one name `q`."""
    plates = dict(home)
    for unit in lot:
        value = dir_value(1, "q") if unit[0] == "dir" else row_value(shape, 1, "q", 0)
        put_cell(plates, unit_place(shape, unit), value)
    return plates


def lots_of(things):
    """All lots of some things, as tuples."""
    things = list(things)
    for many in range(len(things) + 1):
        yield from itertools.combinations(things, many)


def price_of(prices, lot):
    return sum(prices.get(unit, 1) for unit in lot)


def drawn_right_home(draw, shape):
    """A home without a fault, with no free cell more often than not."""
    home = shape.empty_home()
    taken = set()
    used = [0, 1]
    for unit in units(shape):
        if draw.random() < 0.2:
            continue
        up, name = draw.choice(used), draw.choice(FAULTY_NAMES)
        if (up, name) in taken and up != 1:
            continue
        taken.add((up, name))
        if unit[0] == "dir":
            used.append(unit[1])
            put_cell(home, unit_place(shape, unit), dir_value(up, name))
        else:
            put_cell(home, unit_place(shape, unit), row_value(shape, up, name, draw.randrange(shape.files)))
    return home


def drawn_pointer(draw, shape, few):
    """A pointer, most often to one of the first few blocks or to a hole."""
    kind = draw.random()
    if kind < 0.45:
        return draw.randint(1, few)
    if kind < 0.85:
        return draw.choice((0, 0, 0, -1, shape.blocks + 1, -99, 10 ** 9))
    return draw.randint(1, shape.blocks)


def drawn_files(draw, shape, few):
    """A home whose file plates and blocks hold any numbers."""
    home = shape.empty_home()
    for file in range(shape.files):
        size = draw.choice((draw.randint(-3, 610), draw.randint(0, 100), draw.randint(0, 30), 600, 0))
        owner, time = draw.randint(-1, shape.users), draw.randint(-3, 9)
        home[shape.file_plate(file)] = (size, owner, time) + tuple(drawn_pointer(draw, shape, few) for _ in range(5))
    for block in range(shape.blocks):
        home[shape.block_plate(block)] = tuple(drawn_pointer(draw, shape, few) for _ in range(8))
    return home
