"""Copies of files and directories, which cost names and files but not a block."""

from plugproof.errors import Refused
from plugproof.files import share_file
from plugproof.names import free_dir, free_row, put_dir, put_row
from plugproof.readings import DIR_KIND, children_by_up, named_files, row_at


def free_file(draft, held):
    """The least file that is not named and is none of those held."""
    named = named_files(draft.home, draft.shape)
    for file in range(draft.shape.files):
        if file not in named and file not in held:
            return file
    raise Refused("full")


def copy_row(draft, held, file, up, name, owner, time):
    """A new file that shares the numbers of another one gets a row."""
    row = free_row(draft)
    late = free_file(draft, held)
    share_file(draft, file, late, owner, time)
    put_row(draft, row, up, name, late)


def copy_dir(draft, held, number, up, name, owner, time):
    """A copy of a directory with all that lies beneath it, each row with a file of its own."""
    # Read ahead of all: the copy may come to lie beneath the directory itself.
    children = children_by_up(draft.home, draft.shape)
    copy_tree(draft, held, children, number, (up, name), (owner, time))


def copy_tree(draft, held, children, number, place, owner_and_time):
    """A copy of a directory, at a place (up, name's number), with what these children tell of it."""
    owner, time = owner_and_time
    late = free_dir(draft)
    put_dir(draft, late, place[0], place[1])
    for name, kind, child in children.get(number, []):
        if kind == DIR_KIND:
            copy_tree(draft, held, children, child, (late, name), owner_and_time)
        else:
            file = row_at(draft.home, draft.shape, child)[2]
            copy_row(draft, held, file, late, name, owner, time)
