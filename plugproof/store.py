"""A store of home plates on a disk: its deeds happen whole, in order, or not at all."""

from plugproof.disk import Disk, copy_of
from plugproof.heads import HEAD_PLATES, head_plate, read_head
from plugproof.log import last_seen, log_rows, read_groups, slot_plate, slots_of
from plugproof.plates import checked_changes, is_cells
from plugproof.shape import is_whole
from plugproof.storeerrors import BadPlate, TooGreat

FIRST_HEAD = (0, 0, 0)
NOUGHTS = (0, 0, 0, 0, 0, 0, 0, 0)


def home_plate(slots, plate):
    """The plate of the disk on which a home plate stands, behind the heads and the ring."""
    return HEAD_PLATES + slots + plate


def plates_of_disk(plates, slots):
    """How many plates the disk of a store has."""
    return home_plate(slots, plates)


def last_changes(groups, plates):
    """The pairs (home plate, its last cells) that groups change, ascending, in a list."""
    last = {}
    for number, slot, changes in groups:
        for plate, cells in changes:
            if plate < plates:
                last[plate] = cells
    return [(plate, last[plate]) for plate in sorted(last)]


def read_home(disk, plates, slots, groups):
    """The dict of the home plates that a disk means, with these groups over them."""
    home = {}
    for plate in range(plates):
        cells = disk.now(home_plate(slots, plate))
        home[plate] = cells if is_cells(cells) else NOUGHTS
    for plate, cells in last_changes(groups, plates):
        home[plate] = cells
    return home


class Store:
    """What stands on a disk of which nothing is loose, and the deeds since.

    `groups` has those in the ring that are not home, as read_groups tells them;
    `pushed` has, for each group pushed since the store was made, the pair of
    how many events and how many deeds there were behind it.
    """

    def __init__(self, plates, slots, disk):
        head = read_head(disk)
        self.plates = plates
        self.slots = slots
        self.begin = disk
        self.trace = ()
        self.deeds = 0
        self.settled_deeds = 0
        self.groups = read_groups(disk, slots, head)
        self.pushed = ()
        self._disk = copy_of(disk)
        self._home = read_home(disk, plates, slots, self.groups)
        self._running = {}
        self._head_number = head[0]
        # A number that can be read somewhere could make an old plate part of a new group.
        self._next_group = max(head[1], last_seen(disk, slots) + 1)
        self._next_slot = head[2] + slots_of(self.groups)

    def home(self):
        """A new dict from the home plates to their cells, behind all deeds."""
        return dict(self._home)

    def block(self, plate):
        """The cells of one home plate, behind all deeds."""
        if not is_whole(plate, 0, self.plates - 1):
            raise BadPlate(plate)
        return self._home[plate]

    def disk(self):
        """A new Disk as it stands."""
        return copy_of(self._disk)

    def put(self, changes):
        """One deed: cells for some home plates, put into the running group."""
        pairs = checked_changes(self.plates, changes)
        if len(pairs) > self.slots:
            raise TooGreat(len(pairs))
        if len(pairs) == 0:
            return
        fresh = [plate for plate, cells in pairs if plate not in self._running]
        if len(self._running) + len(fresh) > self.slots:
            self.push()
        for plate, cells in pairs:
            self._running[plate] = cells
            self._home[plate] = cells
        self.deeds = self.deeds + 1

    def push(self):
        """The running group is written to the ring, loosely."""
        if len(self._running) == 0:
            return
        changes = tuple([(plate, self._running[plate]) for plate in sorted(self._running)])
        if slots_of(self.groups) + len(changes) > self.slots:
            self.lay()
        for at, row in enumerate(log_rows(self._next_group, changes)):
            self._write(slot_plate(self.slots, self._next_slot + at), row)
        self.groups = self.groups + ((self._next_group, self._next_slot, changes),)
        self.pushed = self.pushed + ((len(self.trace), self.deeds),)
        self._running = {}
        self._next_group = self._next_group + 1
        self._next_slot = self._next_slot + len(changes)

    def sync(self):
        """All deeds so far are settled: a push, then a barrier."""
        self.push()
        self._barrier()

    def lay(self):
        """The groups in the ring are brought home; the running group stays."""
        if len(self.groups) == 0:
            return
        self._barrier()
        self.bring_home()

    def bring_home(self):
        """Settled groups are written home, and a head behind them: what opening does, too."""
        for plate, cells in last_changes(self.groups, self.plates):
            self._write(home_plate(self.slots, plate), cells)
        # The head says that the home plates stand, so they must be settled ahead of it.
        self._barrier()
        self._head_number = self._head_number + 1
        head = (self._head_number, self._next_group, self._next_slot)
        self._write(head_plate(self._head_number), head)
        self._barrier()
        self.groups = ()

    def _write(self, plate, value):
        """One more event: something is written, loosely."""
        self._disk.write(plate, value)
        self.trace = self.trace + (("write", plate, value),)

    def _barrier(self):
        """One more event: a barrier, which settles all deeds that were pushed."""
        self._disk.barrier()
        self.trace = self.trace + (("barrier",),)
        if len(self.pushed) > 0:
            self.settled_deeds = self.pushed[-1][1]


def fresh_store(plates, slots, home):
    """The store of a fresh disk with cells for all home plates, all settled."""
    pairs = checked_changes(plates, home)
    for plate in range(plates):
        if plate not in home:
            raise BadPlate(plate)
    disk = Disk(plates_of_disk(plates, slots))
    disk.write(head_plate(FIRST_HEAD[0]), FIRST_HEAD)
    for plate, cells in pairs:
        disk.write(home_plate(slots, plate), cells)
    disk.barrier()
    return Store(plates, slots, disk)


def open_store(disk, plates, slots):
    """The store of what stands on a disk, as behind a fall, with all its groups brought home."""
    store = Store(plates, slots, disk)
    store.bring_home()
    return store
