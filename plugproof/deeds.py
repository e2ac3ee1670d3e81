"""What the calls of a system change, on a draft; `held` has the files that handles hold.

A thing is a pair (kind, number): a directory or a row. A draft that a refusal
leaves half changed is thrown away.
"""

from plugproof.copies import copy_dir, copy_row, free_file
from plugproof.errors import Refused
from plugproof.files import cut, drop_file, empty_file, put_time, write
from plugproof.names import child_of, children_of, found_at, free_cell, free_dir, free_row, is_below, place_of
from plugproof.names import put_dir, put_row, row_found
from plugproof.readings import DIR_KIND, OWNER_PLACE, ROW_KIND, dir_at, named_files, row_at
from plugproof.shape import FOUND, ROOT


def file_of(home, shape, row):
    """The file that a row has."""
    return row_at(home, shape, row)[2]


def file_found(home, shape, path):
    """The file to whose row a path leads."""
    return file_of(home, shape, row_found(home, shape, path))


def place_at(home, shape, thing):
    """The place (up, name's number) where a thing stands."""
    kind, number = thing
    return dir_at(home, shape, number) if kind == DIR_KIND else row_at(home, shape, number)[:2]


def check_free(home, shape, up, name):
    """Refused by exists if something stands at a place."""
    if child_of(home, shape, up, name) is not None:
        raise Refused("exists")


def free_place(home, shape, path):
    """The place (up, name's number) of a path's last name, where nothing stands."""
    up, name = place_of(home, shape, path)
    check_free(home, shape, up, name)
    return up, name


def check_moves(thing):
    """Refused by root for the root and found, which stand fast."""
    kind, number = thing
    if kind == DIR_KIND and number in (ROOT, FOUND):
        raise Refused("root")


def check_loop(home, shape, thing, up):
    """Refused by loop if a directory is the thing or lies beneath it."""
    kind, number = thing
    if kind == DIR_KIND and is_below(home, shape, up, number):
        raise Refused("loop")


def check_empty(home, shape, number):
    """Refused by notempty if something stands in a directory."""
    if len(children_of(home, shape, number)) > 0:
        raise Refused("notempty")


def check_over(home, shape, thing, over):
    """Refused if a thing cannot come in the place of another one."""
    if thing[0] == DIR_KIND and over[0] == DIR_KIND:
        check_empty(home, shape, over[1])
    elif over[0] == DIR_KIND:
        raise Refused("isdir")
    elif thing[0] == DIR_KIND:
        raise Refused("nodir")


def put_thing(draft, thing, up, name):
    """A thing stands here from now on, by the name with this number."""
    kind, number = thing
    if kind == DIR_KIND:
        put_dir(draft, number, up, name)
    else:
        put_row(draft, number, up, name, file_of(draft.home, draft.shape, number))


def drop_unused(draft, held, file):
    """A file that is in use no more gives its blocks back."""
    if file not in held and file not in named_files(draft.home, draft.shape):
        drop_file(draft, file)


def free_thing(draft, held, thing):
    """A thing goes; with the last row of a file that no handle holds, the file."""
    kind, number = thing
    file = None if kind == DIR_KIND else file_of(draft.home, draft.shape, number)
    free_cell(draft, kind, number)
    if file is not None:
        drop_unused(draft, held, file)


def make_dir(draft, path):
    """A new directory."""
    up, name = free_place(draft.home, draft.shape, path)
    draft.tick()
    put_dir(draft, free_dir(draft), up, name)


def create_file(draft, held, path, owner):
    """A new file, of size 0."""
    up, name = free_place(draft.home, draft.shape, path)
    row, file = free_row(draft), free_file(draft, held)
    empty_file(draft, file, owner, draft.tick())
    put_row(draft, row, up, name, file)


def link_file(draft, old, new):
    """One more row for a file."""
    file = file_found(draft.home, draft.shape, old)
    up, name = free_place(draft.home, draft.shape, new)
    draft.tick()
    put_row(draft, free_row(draft), up, name, file)


def unlink_row(draft, held, path):
    """A row goes; with the last one of a file that no handle holds, the file."""
    row = row_found(draft.home, draft.shape, path)
    free_thing(draft, held, (ROW_KIND, row))
    draft.tick()


def remove_dir(draft, path):
    """An empty directory goes."""
    kind, number = found_at(draft.home, draft.shape, path)
    if kind != DIR_KIND:
        raise Refused("nodir")
    check_moves((kind, number))
    check_empty(draft.home, draft.shape, number)
    free_cell(draft, kind, number)
    draft.tick()


def move_thing(draft, held, old, new):
    """A thing stands at another place, over what stood there; nothing changes if it stands there already."""
    home, shape = draft.home, draft.shape
    thing = found_at(home, shape, old)
    check_moves(thing)
    up, name = place_of(home, shape, new)
    check_loop(home, shape, thing, up)
    if place_at(home, shape, thing) == (up, name):
        return
    over = child_of(home, shape, up, name)
    if over is not None:
        check_over(home, shape, thing, over)
        free_thing(draft, held, over)
    put_thing(draft, thing, up, name)
    draft.tick()


def copy_thing(draft, held, old, new, owner):
    """A copy of a thing, all of whose files are one user's."""
    home, shape = draft.home, draft.shape
    thing = found_at(home, shape, old)
    check_moves(thing)
    up, name = place_of(home, shape, new)
    check_loop(home, shape, thing, up)
    check_free(home, shape, up, name)
    kind, number = thing
    if kind == DIR_KIND:
        copy_dir(draft, held, number, up, name, owner, draft.tick())
    else:
        copy_row(draft, held, file_of(home, shape, number), up, name, owner, draft.tick())


def give_file(draft, file, owner):
    """A file is another user's."""
    draft.put_cell((draft.shape.file_plate(file), OWNER_PLACE), owner)
    draft.tick()


def put_limit(draft, user, many):
    """A user may have so many blocks."""
    draft.put_cell(draft.shape.user_cell(user), many)
    draft.tick()


def write_file(draft, file, start, numbers):
    """Some numbers, at least one, are put into a file from a place on."""
    write(draft, file, start, numbers)
    put_time(draft, file, draft.tick())


def cut_file(draft, file, size):
    """A file has this size from now on."""
    cut(draft, file, size)
    put_time(draft, file, draft.tick())
