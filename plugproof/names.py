"""Names and paths: what lies where in a home, and how it comes there."""

from plugproof.errors import Refused
from plugproof.places import is_right
from plugproof.readings import DIR_KIND, FIRST_DIR, ROW_KIND
from plugproof.readings import children_by_up, dir_at, dir_value, row_at, row_value
from plugproof.shape import FOUND, ROOT, is_name, number_of

FOUND_WORD = "found"


def children_of(home, shape, up):
    """The triples (name's number, kind, number) of what lies beneath a directory; directories first."""
    return children_by_up(home, shape).get(up, [])


def child_of(home, shape, up, name):
    """The pair (kind, number) of the first thing beneath a directory with a name's number."""
    for told, kind, number in children_of(home, shape, up):
        if told == name:
            return kind, number
    return None


def is_below(home, shape, number, top):
    """Whether a directory is `top` or lies beneath it."""
    here = number
    # In a ring no walk up ends: behind so many steps it comes to nothing new.
    for _ in range(shape.dirs):
        if here == top:
            return True
        place = dir_at(home, shape, here)
        if place is None:
            return False
        here = place[0]
    return False


def is_path(thing):
    """Whether any thing is a tuple or list of names; the word found can stand first."""
    if not isinstance(thing, (tuple, list)):
        return False
    return all([is_name(name) for name in behind_found(thing)])


def behind_found(path):
    """The names of a path, without the word found."""
    return path[1:] if is_in_found(path) else path


def is_in_found(path):
    """Whether the word found stands first."""
    return len(path) > 0 and path[0] == FOUND_WORD


def check_path(thing):
    """A path as a tuple."""
    if not is_path(thing):
        raise Refused("path")
    return tuple(thing)


def walked(home, shape, names):
    """The directory to which names lead from the root."""
    here = FOUND if is_in_found(names) else ROOT
    for name in behind_found(names):
        child = child_of(home, shape, here, number_of(name))
        if child is None:
            raise Refused("missing")
        if child[0] == ROW_KIND:
            raise Refused("nodir")
        here = child[1]
    return here


def place_of(home, shape, path):
    """The pair (up, name's number) of a path's last name, whether something stands there or not."""
    names = check_path(path)
    if len(behind_found(names)) == 0:
        raise Refused("root")
    return walked(home, shape, names[:-1]), number_of(names[-1])


def found_at(home, shape, path):
    """The pair (kind, number) of what a path leads to."""
    names = check_path(path)
    if len(behind_found(names)) == 0:
        return DIR_KIND, walked(home, shape, names)
    up, name = place_of(home, shape, names)
    child = child_of(home, shape, up, name)
    if child is None:
        raise Refused("missing")
    return child


def row_found(home, shape, path):
    """The number of the row that a path leads to."""
    kind, number = found_at(home, shape, path)
    if kind == DIR_KIND:
        raise Refused("isdir")
    return number


def are_right(home, shape):
    """Whether no unit of a home has a fault."""
    return is_right(shape, home)


def free_dir(draft):
    """The least directory that is free."""
    for number in range(FIRST_DIR, draft.shape.dirs):
        if dir_at(draft.home, draft.shape, number) is None:
            return number
    raise Refused("full")


def free_row(draft):
    """The least row that is free."""
    for number in range(draft.shape.rows):
        if row_at(draft.home, draft.shape, number) is None:
            return number
    raise Refused("full")


def put_dir(draft, number, up, name):
    """A directory lies here, by the name with this number."""
    draft.put_cell(draft.shape.dir_cell(number), dir_value(up, name))


def put_row(draft, number, up, name, file):
    """A row gives a file the name with this number here."""
    draft.put_cell(draft.shape.row_cell(number), row_value(draft.shape, up, name, file))


def free_cell(draft, kind, number):
    """A directory or a row is free."""
    shape = draft.shape
    place = shape.dir_cell(number) if kind == DIR_KIND else shape.row_cell(number)
    draft.put_cell(place, 0)
