"""Units (directories and rows), where they lie, and what is wrong with it."""

from plugproof.readings import FIRST_DIR, cell_at, dir_at, dirs_of, is_dir, row_at
from plugproof.shape import FOUND, is_whole

DIR = "dir"
ROW = "row"


def all_units(shape):
    """The list of all units, ascending."""
    dirs = [(DIR, number) for number in range(FIRST_DIR, shape.dirs)]
    return dirs + [(ROW, number) for number in range(shape.rows)]


def is_unit(shape, thing):
    """Whether any thing is a unit."""
    if not isinstance(thing, tuple) or len(thing) != 2:
        return False
    kind, number = thing
    if kind == DIR:
        return is_whole(number, FIRST_DIR, shape.dirs - 1)
    return kind == ROW and is_whole(number, 0, shape.rows - 1)


def unit_cell(shape, unit):
    """The place of a unit's cell."""
    kind, number = unit
    return shape.dir_cell(number) if kind == DIR else shape.row_cell(number)


def value_at(shape, home, unit):
    """The number in a unit's cell."""
    return cell_at(home, unit_cell(shape, unit))


def place_of(shape, home, unit):
    """Where a unit lies: (up, name's number), None for a free one."""
    kind, number = unit
    if kind == DIR:
        return dir_at(home, shape, number)
    row = row_at(home, shape, number)
    return None if row is None else row[:2]


def units_by_up(shape, home):
    """A dict from the numbers that units name as their directories to these units, ascending."""
    units = {}
    for unit in all_units(shape):
        place = place_of(shape, home, unit)
        if place is not None:
            units.setdefault(place[0], []).append(unit)
    return units


def wrong_units(shape, home):
    """The list of the units that name no directory's number, ascending."""
    told = [(unit, place_of(shape, home, unit)) for unit in all_units(shape)]
    return [unit for unit, place in told if place is not None and place[0] >= shape.dirs]


def groups_of(shape, home, units):
    """The groups of units, as tuples: those beneath one directory that have one name.

    They are told in a dict from their places. Beneath found names may be
    alike, so none of these units is in a group.
    """
    groups = {}
    for unit in units:
        place = place_of(shape, home, unit)
        if place is not None and place[0] != FOUND:
            groups[place] = groups.get(place, ()) + (unit,)
    return groups


def rings_of(shape, home):
    """The rings of directories, each beneath the next one: ascending tuples, ascending."""
    ups = {number: place[0] for number, place in dirs_of(home, shape)}
    rings = []
    met = {}
    for start in ups:
        passed = []
        here = start
        while here in ups and here not in met:
            met[here] = True
            passed.append(here)
            here = ups[here]
        # A walk that ends where an earlier one was leads to no other ring than that one.
        if here in passed:
            rings.append(tuple(sorted(passed[passed.index(here):])))
    return sorted(rings)


def faults_beneath(shape, home, up, units):
    """The faults of a directory beneath which these units lie: ("free", ..), then ("double", ..)."""
    faults_here = []
    if len(units) > 0 and not is_dir(home, shape, up):
        faults_here.append(("free", up, tuple(units)))
    groups = groups_of(shape, home, units)
    for place in sorted(groups):
        if len(groups[place]) > 1:
            faults_here.append(("double", up, place[1], groups[place]))
    return faults_here


def faults(shape, home):
    """All faults of a home: wrong units, then free directories and doubles, then rings."""
    told = [("wrong", unit) for unit in wrong_units(shape, home)]
    units = units_by_up(shape, home)
    for up in range(shape.dirs):
        told.extend(faults_beneath(shape, home, up, units.get(up, [])))
    return tuple(told + [("ring", ring) for ring in rings_of(shape, home)])


def is_right(shape, home):
    """Whether a home has no fault."""
    return len(faults(shape, home)) == 0
