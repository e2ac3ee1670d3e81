"""What users see of the home of a store: their calls, each of which is one deed or none."""

from plugproof.counted import free_blocks
from plugproof.deeds import copy_thing, create_file, cut_file, drop_unused, file_found, give_file, link_file, make_dir
from plugproof.deeds import move_thing, put_limit, remove_dir, unlink_row, write_file
from plugproof.drafts import Draft
from plugproof.errors import Refused
from plugproof.handles import APPEND, Handles, Views
from plugproof.names import children_of, found_at
from plugproof.readings import DIR_KIND, content_of, counts_of, limit_at, met, named_files, numbers_at, owner_at
from plugproof.readings import row_at, rows_of, size_at, time_at, usage_of
from plugproof.shape import is_whole, name_of
from plugproof.storeerrors import TooGreat


def list_at(home, shape, path):
    """What a home's list_dir answers."""
    kind, number = found_at(home, shape, path)
    if kind != DIR_KIND:
        raise Refused("nodir")
    children = children_of(home, shape, number)
    return tuple(sorted([(name_of(name), "dir" if below == DIR_KIND else "file") for name, below, child in children]))


def tell_at(home, shape, path):
    """What a home's tell answers."""
    kind, number = found_at(home, shape, path)
    if kind == DIR_KIND:
        return "dir", len(children_of(home, shape, number))
    file = row_at(home, shape, number)[2]
    rows = [row for row, place in rows_of(home, shape) if place[2] == file]
    return "file", owner_at(home, shape, file), time_at(home, shape, file), size_at(home, shape, file), len(rows)


class System:
    """The files of a store's home, the handles on them and the views of them."""

    def __init__(self, shape, store):
        self.shape = shape
        self.store = store
        self.handles = Handles()
        self.views = Views()
        # Handles are in memory alone: when a system is made, no file without a name is in use.
        home = store.home()
        self.counts = counts_of(home, shape, named_files(home, shape))

    def home(self):
        """A new dict from the home plates to their cells."""
        return self.store.home()

    def draft(self):
        """A draft of what is now."""
        return Draft(self.shape, self.home(), self.counts, self.views.pins())

    def used(self, home):
        """The ascending list of the files in use: those that are named in a home, or that a handle holds."""
        named = named_files(home, self.shape)
        held = self.handles.held()
        return [file for file in range(self.shape.files) if file in named or file in held]

    def usage(self, user):
        """How many blocks, ways counted, the files in use have that a user owns."""
        home = self.home()
        return usage_of(home, self.shape, self.used(home), user)

    def free_many(self):
        """How many blocks are free."""
        return len(free_blocks(self.draft()))

    def check_user(self, user):
        """Refused by user for what is none."""
        if not is_whole(user, 0, self.shape.users - 1):
            raise Refused("user")

    def check_quota(self, draft, user):
        """Refused by quota if a user would have more blocks than the limit, and more than before."""
        late = usage_of(draft.home, self.shape, self.used(draft.home), user)
        if late > limit_at(draft.home, self.shape, user) and late > self.usage(user):
            raise Refused("quota")

    def put(self, draft):
        """What a draft changes is put into the store, as one deed; no deed, if that is nothing."""
        home = self.home()
        changed = [plate for plate in sorted(draft.changes) if draft.changes[plate] != home[plate]]
        if len(changed) == 0:
            return
        try:
            self.store.put({plate: draft.changes[plate] for plate in changed})
        except TooGreat:
            raise Refused("great")
        self.counts = draft.counts

    def make(self, user, path):
        """A new directory."""
        draft = self.draft()
        make_dir(draft, path)
        self.put(draft)

    def create(self, user, path):
        """A new file of the user, of size 0."""
        draft = self.draft()
        create_file(draft, self.handles.held(), path, user)
        self.put(draft)

    def link(self, user, old, new):
        """One more row for a file."""
        draft = self.draft()
        link_file(draft, old, new)
        self.put(draft)

    def unlink(self, user, path):
        """A row goes; with the last one of a file that no handle holds, the file."""
        draft = self.draft()
        unlink_row(draft, self.handles.held(), path)
        self.put(draft)

    def remove(self, user, path):
        """An empty directory goes."""
        draft = self.draft()
        remove_dir(draft, path)
        self.put(draft)

    def move(self, user, old, new):
        """A directory or a row stands at another place, perhaps over what stood there."""
        draft = self.draft()
        move_thing(draft, self.handles.held(), old, new)
        self.put(draft)

    def copy(self, user, old, new):
        """A copy of a file, or of a directory with all that lies beneath it, all files the user's."""
        draft = self.draft()
        copy_thing(draft, self.handles.held(), old, new, user)
        self.check_quota(draft, user)
        self.put(draft)

    def list_dir(self, user, path):
        """The ascending tuple of the pairs (name, "dir" or "file") of what stands in a directory."""
        return list_at(self.home(), self.shape, path)

    def tell(self, user, path):
        """("dir", how many things stand in it), or ("file", owner, time, size, how many rows it has)."""
        return tell_at(self.home(), self.shape, path)

    def give(self, user, path, owner):
        """A file gets another owner."""
        draft = self.draft()
        file = file_found(draft.home, self.shape, path)
        self.check_user(owner)
        if user != 0:
            raise Refused("denied")
        give_file(draft, file, owner)
        self.check_quota(draft, owner)
        self.put(draft)

    def limit(self, user, other, many):
        """Another user may have so many blocks."""
        self.check_user(other)
        if not is_whole(many, 0, self.shape.blocks):
            raise Refused("number")
        if user != 0:
            raise Refused("denied")
        draft = self.draft()
        put_limit(draft, other, many)
        self.put(draft)

    def sync(self, user):
        """All deeds so far are settled."""
        self.store.sync()

    def open_file(self, user, path, mode):
        """The number of a new handle on a file."""
        home = self.home()
        file = file_found(home, self.shape, path)
        return self.handles.begin(user, file, owner_at(home, self.shape, file), mode)

    def shut(self, user, number):
        """A handle goes, and its lock; with the last one of a file without rows, the file."""
        handle = self.handles.handle(user, number)
        draft = self.draft()
        drop_unused(draft, self.handles.held_without(number), handle.file)
        self.put(draft)
        self.handles.end(user, number)

    def read(self, user, number, many):
        """So many numbers from a handle's place on, fewer at the file's end."""
        handle = self.handles.to_read(user, number, many)
        home = self.home()
        end = min(handle.at + many, size_at(home, self.shape, handle.file))
        numbers = numbers_at(home, self.shape, handle.file, handle.at, end)
        handle.at = handle.at + len(numbers)
        return numbers

    def write(self, user, number, numbers):
        """Numbers are put at a handle's place, or at the file's end; the handle stands behind them then."""
        handle = self.handles.to_write(user, number, numbers)
        if len(numbers) == 0:
            return
        draft = self.draft()
        start = size_at(draft.home, self.shape, handle.file) if handle.mode == APPEND else handle.at
        write_file(draft, handle.file, start, numbers)
        self.put_own(draft, handle.file)
        handle.at = start + len(numbers)

    def seek(self, user, number, at):
        """A handle stands at this place from now on."""
        self.handles.seek(user, number, at)

    def cut(self, user, number, size):
        """A handle's file has this size from now on."""
        handle = self.handles.to_cut(user, number, size)
        draft = self.draft()
        cut_file(draft, handle.file, size)
        self.put_own(draft, handle.file)

    def put_own(self, draft, file):
        """A changed file is put into the store, if its owner may have so many blocks."""
        self.check_quota(draft, owner_at(draft.home, self.shape, file))
        self.put(draft)

    def lock(self, user, number, kind):
        """A handle gets a lock on its file, in the place of one that it has."""
        self.handles.lock(user, number, kind)

    def unlock(self, user, number):
        """A handle has no lock from now on."""
        self.handles.unlock(user, number)

    def view(self, user):
        """The number of a new view of this whole moment."""
        home = self.home()
        plates = {plate: home[plate] for plate in range(self.shape.first_block)}
        blocks = {block: True for file in named_files(home, self.shape) for block in met(home, self.shape, file)}
        return self.views.begin(user, plates, blocks)

    def viewed(self, user, number):
        """The home of a view's moment, but for the blocks that it does not read."""
        home = self.home()
        home.update(self.views.view(user, number).plates)
        return home

    def view_list(self, user, number, path):
        """What list_dir told at a view's moment."""
        return list_at(self.viewed(user, number), self.shape, path)

    def view_read(self, user, number, path):
        """All numbers that a file had at a view's moment."""
        home = self.viewed(user, number)
        return content_of(home, self.shape, file_found(home, self.shape, path))

    def view_tell(self, user, number, path):
        """What tell told at a view's moment."""
        return tell_at(self.viewed(user, number), self.shape, path)

    def end_view(self, user, number):
        """A view goes; what only it read can be taken again."""
        self.views.end(user, number)
