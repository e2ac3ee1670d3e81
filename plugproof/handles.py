"""What a system keeps in memory alone: handles on files, with their locks, and views."""

from plugproof.errors import Refused
from plugproof.shape import MOST_SIZE, is_whole

MOST_HANDLES = 16
MOST_VIEWS = 8

READ = "read"
APPEND = "append"
MODES = ("read", "write", "append")
ALONE = "alone"
KINDS = ("shared", "alone")
NO_LOCK = ""


def least_free(known, most):
    """The least number below the most that no key has, None without one."""
    for number in range(most):
        if number not in known:
            return number
    return None


def is_row(thing):
    """Whether any thing is a row of whole numbers."""
    return isinstance(thing, (tuple, list)) and all([is_whole(number) for number in thing])


class Handle:
    """A file that a user works on, where the next number is read or written, and the lock on it."""

    def __init__(self, user, file, mode):
        self.user = user
        self.file = file
        self.mode = mode
        self.at = 0
        self.kind = NO_LOCK


class Handles:
    """All handles, by their numbers."""

    def __init__(self):
        self.known = {}

    def held(self):
        """The files that handles hold, one for each handle."""
        return [self.known[number].file for number in self.known]

    def held_without(self, number):
        """The files that all handles but one hold."""
        return [self.known[other].file for other in self.known if other != number]

    def begin(self, user, file, owner, mode):
        """The number of a new handle on a file that this user owns."""
        if mode not in MODES:
            raise Refused("mode")
        if mode != READ and user not in (0, owner):
            raise Refused("denied")
        number = least_free(self.known, MOST_HANDLES)
        if number is None:
            raise Refused("handles")
        self.known[number] = Handle(user, file, mode)
        return number

    def handle(self, user, number):
        """The handle of this user with this number."""
        if not is_whole(number) or number not in self.known or self.known[number].user != user:
            raise Refused("handle")
        return self.known[number]

    def check_locks(self, handle, kinds):
        """Refused by locked if another user has a lock of these kinds on a handle's file."""
        for number in self.known:
            other = self.known[number]
            if other.file == handle.file and other.user != handle.user and other.kind in kinds:
                raise Refused("locked")

    def check_change(self, handle):
        """Refused if a handle's file cannot be changed by it."""
        if handle.mode == READ:
            raise Refused("mode")
        self.check_locks(handle, KINDS)

    def to_read(self, user, number, many):
        """The handle by which so many numbers can be read."""
        handle = self.handle(user, number)
        if not is_whole(many, 0):
            raise Refused("number")
        self.check_locks(handle, (ALONE,))
        return handle

    def to_write(self, user, number, numbers):
        """The handle by which a row of numbers can be written."""
        handle = self.handle(user, number)
        if not is_row(numbers):
            raise Refused("number")
        self.check_change(handle)
        return handle

    def to_cut(self, user, number, size):
        """The handle by which a file can be cut to a size."""
        handle = self.handle(user, number)
        if not is_whole(size, 0):
            raise Refused("number")
        self.check_change(handle)
        return handle

    def seek(self, user, number, at):
        """A handle stands at this place from now on."""
        handle = self.handle(user, number)
        if not is_whole(at, 0, MOST_SIZE):
            raise Refused("number")
        handle.at = at

    def lock(self, user, number, kind):
        """A handle gets a lock, in the place of one that it has."""
        handle = self.handle(user, number)
        if kind not in KINDS:
            raise Refused("kind")
        self.check_locks(handle, KINDS if kind == ALONE else (ALONE,))
        handle.kind = kind

    def unlock(self, user, number):
        """A handle has no lock from now on."""
        handle = self.handle(user, number)
        handle.kind = NO_LOCK

    def end(self, user, number):
        """A handle goes, and its lock; the file that it held."""
        handle = self.handle(user, number)
        self.known.pop(number)
        return handle.file


class View:
    """What a user sees of one moment: its plates but the blocks, and the blocks that they lead to."""

    def __init__(self, user, plates, blocks):
        self.user = user
        self.plates = plates
        self.blocks = blocks


class Views:
    """All views, by their numbers."""

    def __init__(self):
        self.known = {}

    def begin(self, user, plates, blocks):
        """The number of a new view."""
        number = least_free(self.known, MOST_VIEWS)
        if number is None:
            raise Refused("views")
        self.known[number] = View(user, plates, blocks)
        return number

    def view(self, user, number):
        """The view of this user with this number."""
        if not is_whole(number) or number not in self.known or self.known[number].user != user:
            raise Refused("view")
        return self.known[number]

    def end(self, user, number):
        """A view goes."""
        self.view(user, number)
        self.known.pop(number)

    def readers(self, block):
        """The ascending tuple of the numbers of the views that read a block."""
        return tuple([number for number in sorted(self.known) if block in self.known[number].blocks])

    def pins(self):
        """A new dict whose keys are the blocks that views read."""
        return {block: True for number in self.known for block in self.known[number].blocks}
