"""The plain system: the same calls for somebody who has no disk.

Directories are dicts from names to entries, ("dir", number) or ("file",
number); files are rows of numbers. There is room for all of them.
"""

from plugproof.errors import Refused
from plugproof.handles import APPEND, MOST_VIEWS, Handles, least_free
from plugproof.names import FOUND_WORD, check_path
from plugproof.shape import FOUND, MOST_SIZE, ROOT, is_whole, number_of

DIR = "dir"
FILE = "file"


class PlainFile:
    """A file: its numbers are a tuple, which is put anew and never changed."""

    def __init__(self, owner, time, numbers):
        self.owner = owner
        self.time = time
        self.numbers = numbers


class Plain:
    """Directories, the files in use, the handles on them, and the moments that views show."""

    def __init__(self, users, blocks):
        self.users = users
        self.blocks = blocks
        self.clock = 0
        self.dirs = {ROOT: {}, FOUND: {}}
        self.files = {}
        self.handles = Handles()
        self.moments = {}

    def tree(self):
        """The pair of what the root holds and what found holds, as tree_of tells it of a home."""
        which = {}
        in_root = self.tree_below(ROOT, which)
        return in_root, self.tree_below(FOUND, which)

    def tree_below(self, number, which):
        """What a directory holds; `which` has the files come to so far, and gets those come to here."""
        inner = []
        for name in sorted(self.dirs[number], key=number_of):
            kind, child = self.dirs[number][name]
            if kind == DIR:
                inner.append((name, DIR, self.tree_below(child, which)))
            else:
                file = self.files[child]
                met_as = which.setdefault(child, len(which))
                inner.append((name, FILE, met_as, file.owner, file.time, file.numbers))
        return tuple(inner)

    def copy_now(self):
        """A new plain system with this tree and these files, without handles and views."""
        late = Plain(self.users, self.blocks)
        late.clock = self.clock
        late.dirs = {number: dict(self.dirs[number]) for number in self.dirs}
        for number in self.files:
            file = self.files[number]
            late.files[number] = PlainFile(file.owner, file.time, file.numbers)
        return late

    def fallen(self):
        """What this is behind a fall: a copy without the files that no name leads to."""
        late = self.copy_now()
        late.files = {number: late.files[number] for number in late.files if late.count_names(number) > 0}
        return late

    def tick(self):
        """The clock goes on by 1: the new time."""
        self.clock = self.clock + 1
        return self.clock

    def fresh(self):
        """A number that no directory and no file has."""
        return max(list(self.dirs) + list(self.files)) + 1

    def count_names(self, file):
        """How many names a file has."""
        return sum([list(self.dirs[number].values()).count((FILE, file)) for number in self.dirs])

    def walked(self, names):
        """The directory to which names lead from the root, or from found, if this word stands first."""
        in_found = len(names) > 0 and names[0] == FOUND_WORD
        here = FOUND if in_found else ROOT
        for name in names[1:] if in_found else names:
            if name not in self.dirs[here]:
                raise Refused("missing")
            kind, number = self.dirs[here][name]
            if kind == FILE:
                raise Refused("nodir")
            here = number
        return here

    def place_of(self, path):
        """The pair (directory, name) of a path, whether something stands there or not."""
        names = check_path(path)
        if names in ((), (FOUND_WORD,)):
            raise Refused("root")
        return self.walked(names[:-1]), names[-1]

    def check_free(self, up, name):
        """Refused by exists if something stands at a place."""
        if name in self.dirs[up]:
            raise Refused("exists")

    def free_place(self, path):
        """The pair (directory, name) of a path where nothing stands."""
        up, name = self.place_of(path)
        self.check_free(up, name)
        return up, name

    def found_at(self, path):
        """The entry of what a path leads to; the root and found have one, too."""
        names = check_path(path)
        if names in ((), (FOUND_WORD,)):
            return DIR, self.walked(names)
        up, name = self.place_of(names)
        if name not in self.dirs[up]:
            raise Refused("missing")
        return self.dirs[up][name]

    def thing_found(self, path):
        """The pair (place, entry) of what a path leads to, which is neither the root nor found."""
        entry = self.found_at(path)
        return self.place_of(path), entry

    def file_found(self, path):
        """The number of the file to which a path leads."""
        kind, number = self.found_at(path)
        if kind == DIR:
            raise Refused("isdir")
        return number

    def check_loop(self, entry, up):
        """Refused by loop if a directory is that of an entry, or lies beneath it."""
        kind, number = entry
        if kind == DIR and up in self.dirs_below(number):
            raise Refused("loop")

    def dirs_below(self, number):
        """The list of a directory and all that lie beneath it."""
        below = [number]
        for kind, child in list(self.dirs[number].values()):
            if kind == DIR:
                below.extend(self.dirs_below(child))
        return below

    def free(self, place):
        """Nothing stands at a place any more."""
        up, name = place
        self.dirs[up].pop(name)

    def drop_unused(self, file):
        """A file that is in use no more goes."""
        if file not in self.handles.held() and self.count_names(file) == 0:
            self.files.pop(file)

    def check_user(self, user):
        """Refused by user for what is none."""
        if not is_whole(user, 0, self.users - 1):
            raise Refused("user")

    def make(self, user, path):
        """A new directory."""
        up, name = self.free_place(path)
        number = self.fresh()
        self.dirs[number] = {}
        self.dirs[up][name] = (DIR, number)
        self.tick()

    def create(self, user, path):
        """A new file of the user, without a number."""
        up, name = self.free_place(path)
        number = self.fresh()
        self.files[number] = PlainFile(user, self.tick(), ())
        self.dirs[up][name] = (FILE, number)

    def link(self, user, old, new):
        """One more name for a file."""
        file = self.file_found(old)
        up, name = self.free_place(new)
        self.dirs[up][name] = (FILE, file)
        self.tick()

    def unlink(self, user, path):
        """A name goes; with the last one of a file that no handle holds, the file."""
        file = self.file_found(path)
        self.free(self.place_of(path))
        self.drop_unused(file)
        self.tick()

    def remove(self, user, path):
        """An empty directory goes."""
        kind, number = self.found_at(path)
        if kind == FILE:
            raise Refused("nodir")
        place = self.place_of(path)
        if len(self.dirs[number]) > 0:
            raise Refused("notempty")
        self.free(place)
        self.dirs.pop(number)
        self.tick()

    def check_over(self, entry, over):
        """Refused if what an entry tells cannot come in the place of what another one tells."""
        if (entry[0], over[0]) == (FILE, DIR):
            raise Refused("isdir")
        if (entry[0], over[0]) == (DIR, FILE):
            raise Refused("nodir")
        if over[0] == DIR and len(self.dirs[over[1]]) > 0:
            raise Refused("notempty")

    def move(self, user, old, new):
        """A directory or a name of a file stands at another place, perhaps over what stood there."""
        first, entry = self.thing_found(old)
        up, name = self.place_of(new)
        self.check_loop(entry, up)
        if first == (up, name):
            return
        over = self.dirs[up].get(name)
        if over is not None:
            self.check_over(entry, over)
        self.free(first)
        self.dirs[up][name] = entry
        if over is not None and over[0] == DIR:
            self.dirs.pop(over[1])
        elif over is not None:
            self.drop_unused(over[1])
        self.tick()

    def copy(self, user, old, new):
        """A copy of a file, or of a directory with all that lies beneath it, all files the user's."""
        _, entry = self.thing_found(old)
        up, name = self.place_of(new)
        self.check_loop(entry, up)
        self.check_free(up, name)
        self.dirs[up][name] = self.copy_of(entry, user, self.tick())

    def copy_of(self, entry, owner, time):
        """The entry of a copy of what an entry tells."""
        kind, number = entry
        late = self.fresh()
        if kind == FILE:
            self.files[late] = PlainFile(owner, time, self.files[number].numbers)
            return FILE, late
        inner = self.dirs[number]
        self.dirs[late] = {}
        for name in list(inner):
            self.dirs[late][name] = self.copy_of(inner[name], owner, time)
        return DIR, late

    def list_dir(self, user, path):
        """The ascending tuple of the pairs (name, "dir" or "file") of what stands in a directory."""
        kind, number = self.found_at(path)
        if kind == FILE:
            raise Refused("nodir")
        inner = self.dirs[number]
        return tuple(sorted([(name, inner[name][0]) for name in inner]))

    def tell(self, user, path):
        """("dir", how many things stand in it), or ("file", owner, time, size, how many names it has)."""
        kind, number = self.found_at(path)
        if kind == DIR:
            return DIR, len(self.dirs[number])
        file = self.files[number]
        return FILE, file.owner, file.time, len(file.numbers), self.count_names(number)

    def give(self, user, path, owner):
        """A file gets another owner."""
        file = self.files[self.file_found(path)]
        self.check_user(owner)
        if user != 0:
            raise Refused("denied")
        file.owner = owner
        self.tick()

    def limit(self, user, other, many):
        """What another user may have: without a disk there is no such limit, only the deed."""
        self.check_user(other)
        if not is_whole(many, 0, self.blocks):
            raise Refused("number")
        if user != 0:
            raise Refused("denied")
        self.tick()

    def sync(self, user):
        """Nothing: here no fall takes anything back."""

    def open_file(self, user, path, mode):
        """The number of a new handle on a file."""
        file = self.file_found(path)
        return self.handles.begin(user, file, self.files[file].owner, mode)

    def shut(self, user, number):
        """A handle goes, and its lock; with the last one of a file without names, the file."""
        self.drop_unused(self.handles.end(user, number))

    def read(self, user, number, many):
        """So many numbers from a handle's place on, fewer at the file's end."""
        handle = self.handles.to_read(user, number, many)
        numbers = self.files[handle.file].numbers[handle.at:handle.at + many]
        handle.at = handle.at + len(numbers)
        return numbers

    def write(self, user, number, numbers):
        """Numbers are put at a handle's place, or at the file's end; the handle stands behind them then."""
        handle = self.handles.to_write(user, number, numbers)
        if len(numbers) == 0:
            return
        old = self.files[handle.file].numbers
        start = len(old) if handle.mode == APPEND else handle.at
        end = start + len(numbers)
        ahead = (old + (0,) * start)[:start]
        self.put_numbers(handle.file, ahead + tuple(numbers) + old[end:])
        handle.at = end

    def put_numbers(self, number, numbers):
        """A file's numbers are put anew."""
        if len(numbers) > MOST_SIZE:
            raise Refused("long")
        file = self.files[number]
        file.numbers = numbers
        file.time = self.tick()

    def seek(self, user, number, at):
        """A handle stands at this place from now on."""
        self.handles.seek(user, number, at)

    def cut(self, user, number, size):
        """A handle's file has this size from now on."""
        handle = self.handles.to_cut(user, number, size)
        # No row is made of a size that is refused anyway.
        most = min(size, MOST_SIZE + 1)
        self.put_numbers(handle.file, (self.files[handle.file].numbers + (0,) * most)[:most])

    def lock(self, user, number, kind):
        """A handle gets a lock on its file, in the place of one that it has."""
        self.handles.lock(user, number, kind)

    def unlock(self, user, number):
        """A handle has no lock from now on."""
        self.handles.unlock(user, number)

    def view(self, user):
        """The number of a new view of this whole moment."""
        number = least_free(self.moments, MOST_VIEWS)
        if number is None:
            raise Refused("views")
        self.moments[number] = (user, self.copy_now())
        return number

    def moment(self, user, number):
        """The plain system that a view of this user shows."""
        if not is_whole(number) or number not in self.moments or self.moments[number][0] != user:
            raise Refused("view")
        return self.moments[number][1]

    def view_list(self, user, number, path):
        """What list_dir told at a view's moment."""
        return self.moment(user, number).list_dir(user, path)

    def view_read(self, user, number, path):
        """All numbers that a file had at a view's moment."""
        moment = self.moment(user, number)
        return moment.files[moment.file_found(path)].numbers

    def view_tell(self, user, number, path):
        """What tell told at a view's moment."""
        return self.moment(user, number).tell(user, path)

    def end_view(self, user, number):
        """A view goes."""
        self.moment(user, number)
        self.moments.pop(number)
