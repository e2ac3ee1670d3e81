"""A disk that keeps what was written in any order, falls of it, and traces."""

from plugproof.shape import is_whole
from plugproof.storeerrors import BadChoice, BadMoment, BadPlate

TORN = None


class Disk:
    """Plates, what surely stands on them, and what was written since the last barrier."""

    def __init__(self, many):
        self.many = many
        self.settled = ((),) * many
        self.loose = ()

    def write(self, plate, value):
        """One more loose value, of any kind, on a plate."""
        self.check_plate(plate)
        self.loose = self.loose + ((plate, value),)

    def barrier(self):
        """Each plate's last loose value is settled; none is loose."""
        settled = list(self.settled)
        for plate, value in self.loose:
            settled[plate] = value
        self.settled = tuple(settled)
        self.loose = ()

    def now(self, plate):
        """What a plate reads as: its last loose value, else the settled one."""
        self.check_plate(plate)
        value = self.settled[plate]
        for written, late in self.loose:
            if written == plate:
                value = late
        return value

    def versions(self, plate):
        """What can stand on a plate behind a fall; TORN, the last one, if something is loose."""
        self.check_plate(plate)
        loose = tuple([value for written, value in self.loose if written == plate])
        if len(loose) == 0:
            return (self.settled[plate],)
        return (self.settled[plate],) + loose + (TORN,)

    def count_falls(self):
        """How many unlike rows of plates can stand behind a fall."""
        product = 1
        for plate in range(self.many):
            product = product * count_unlike(self.versions(plate))
        return product

    def fallen(self, choice):
        """A new disk: this one behind the fall that a choice tells."""
        for plate in choice:
            if not self.can_choose(plate, choice[plate]):
                raise BadChoice(plate)
        settled = list(self.settled)
        for plate in choice:
            # -1 is the last of the versions, which is TORN.
            settled[plate] = self.versions(plate)[choice[plate]]
        disk = Disk(self.many)
        disk.settled = tuple(settled)
        return disk

    def can_choose(self, plate, number):
        """Whether a choice can have this number for this plate, both being anything."""
        if not is_whole(plate, 0, self.many - 1):
            return False
        many_loose = len([value for written, value in self.loose if written == plate])
        return is_whole(number, -1 if many_loose > 0 else 0, many_loose)

    def check_plate(self, plate):
        """BadPlate for what is no plate of this disk."""
        if not is_whole(plate, 0, self.many - 1):
            raise BadPlate(plate)


def count_unlike(values):
    """How many unlike ones there are among values, which need not be keys of dicts."""
    unlike = []
    for value in values:
        if value not in unlike:
            unlike.append(value)
    return len(unlike)


def copy_of(disk):
    """A new disk on which all stands as on this one."""
    copy = Disk(disk.many)
    copy.settled = disk.settled
    copy.loose = disk.loose
    return copy


def check_moment(moment, most):
    """BadMoment for what is no number of events from 0 to the most."""
    if not is_whole(moment, 0, most):
        raise BadMoment(moment)


def disk_after(disk, trace, moment):
    """A new disk: the one handed in, behind the first so many events of a trace."""
    check_moment(moment, len(trace))
    late = copy_of(disk)
    for event in trace[:moment]:
        if event[0] == "barrier":
            late.barrier()
        else:
            late.write(event[1], event[2])
    return late
