"""Two disks that keep one store, each of which loses what it loses."""

from plugproof.disk import Disk, check_moment, disk_after
from plugproof.falls import deeds_left
from plugproof.heads import HEAD_PLATES, head_plate, read_head
from plugproof.log import is_log_plate, log_rows, read_groups, slot_plate
from plugproof.plates import is_cells
from plugproof.store import fresh_store, home_plate, open_store, plates_of_disk
from plugproof.storeerrors import NoHead


def best_head(disk):
    """The head that read_head tells, None without one."""
    try:
        return read_head(disk)
    except NoHead:
        return None


def greatest_head(disks):
    """The greatest head of the disks, as a triple: those that have it count."""
    heads = [best_head(disk) for disk in disks]
    readable = [head for head in heads if head is not None]
    if len(readable) == 0:
        raise NoHead()
    return max(readable)


def joined_row(values):
    """The greatest log plate among what stands on one plate of the ring, () without."""
    rows = [value for value in values if is_log_plate(value)]
    return max(rows) if len(rows) > 0 else ()


def joined_cells(values):
    """The first cells among what stands on one home plate, without any the first value."""
    for value in values:
        if is_cells(value):
            return value
    return values[0]


def joined_disk(disks, plates, slots):
    """A disk on which stands what one of the disks that count has."""
    head = greatest_head(disks)
    counting = [disk for disk in disks if best_head(disk) == head]
    joined = Disk(plates_of_disk(plates, slots))
    joined.write(head_plate(head[0]), head)
    for slot in range(slots):
        plate = slot_plate(slots, slot)
        joined.write(plate, joined_row([disk.now(plate) for disk in counting]))
    for home in range(plates):
        plate = home_plate(slots, home)
        joined.write(plate, joined_cells([disk.now(plate) for disk in counting]))
    joined.barrier()
    return joined


def lacking_rows(disk, joined, slots, head):
    """The events that give a disk those plates of the joined whole groups that it has otherwise."""
    events = []
    for group, slot, changes in read_groups(joined, slots, head):
        for at, row in enumerate(log_rows(group, changes)):
            plate = slot_plate(slots, slot + at)
            if disk.now(plate) != row:
                events.append(("write", plate, row))
    return tuple(events + [("barrier",)]) if len(events) > 0 else ()


def whole_home(store):
    """The events that make a disk that does not count a copy of the store's home, without a head."""
    events = [("write", plate, ()) for plate in range(HEAD_PLATES)]
    # Without a head the disk counts no more: only then can its ring and home be touched.
    events.append(("barrier",))
    for slot in range(store.slots):
        events.append(("write", slot_plate(store.slots, slot), ()))
    home = store.home()
    for plate in range(store.plates):
        events.append(("write", home_plate(store.slots, plate), home[plate]))
    events.append(("barrier",))
    return tuple(events)


class Twins:
    """A pair of disks and the store that both keep, opened."""

    def __init__(self, disks, plates, slots):
        joined = joined_disk(disks, plates, slots)
        head = read_head(joined)
        self.plates = plates
        self.slots = slots
        self.begins = tuple(disks)
        self.store = open_store(joined, plates, slots)
        self.ahead = tuple([
            lacking_rows(disk, joined, slots, head) if best_head(disk) == head else whole_home(self.store)
            for disk in disks
        ])
        self.opening = self.moments()

    def trace(self, which):
        """The events of disk 0 or 1: what it is given ahead, then the store's."""
        return self.ahead[which] + self.store.trace

    def moments(self):
        """How many moments there are: the longer row ahead, then the store's events."""
        return self.longer_ahead() + len(self.store.trace)

    def disk_at(self, which, moment):
        """A disk behind so many moments; a shorter row ahead waits for the longer one."""
        check_moment(moment, self.moments())
        events = min(moment, len(self.ahead[which])) + self.store_moment(moment)
        return disk_after(self.begins[which], self.trace(which), events)

    def longer_ahead(self):
        """How many moments both disks together need ahead of the store's events."""
        return max(len(self.ahead[0]), len(self.ahead[1]))

    def store_moment(self, moment):
        """How many of the store's events both disks have been given at a moment."""
        return max(0, moment - self.longer_ahead())


def fresh_twins(plates, slots, home):
    """The twins of two disks as fresh_store leaves them."""
    disks = (fresh_store(plates, slots, home).disk(), fresh_store(plates, slots, home).disk())
    return open_twins(disks, plates, slots)


def open_twins(disks, plates, slots):
    """The twins of a pair of disks, as behind a fall."""
    return Twins(disks, plates, slots)


def fallen_twins(twins, moment, choices):
    """The pair of disks behind a fall; one whose choice is None is lost: nothing stands there."""
    fallen = []
    for which, choice in enumerate(choices):
        disk = twins.disk_at(which, moment)
        fallen.append(Disk(disk.many) if choice is None else disk.fallen(choice))
    return tuple(fallen)


def opened_twins(twins, moment, choices):
    """With how many of the store's deeds twins come up behind the fall that choices tell."""
    check_moment(moment, twins.moments())
    kept = [choice for choice in choices if choice is not None]
    return deeds_left(twins.store, twins.store_moment(moment), kept)
