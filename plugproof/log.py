"""The ring of slots: log plates, and the groups that they make up."""

from plugproof.heads import HEAD_PLATES
from plugproof.plates import is_cells
from plugproof.shape import is_whole

LOG_NUMBERS = 4


def slot_plate(slots, slot):
    """The plate of a slot; slots are counted on and on, round the ring."""
    return HEAD_PLATES + slot % slots


def log_rows(group, changes):
    """The list of the log plates of a group with these pairs (home plate, cells)."""
    many = len(changes)
    return [(group, at, many, home) + cells for at, (home, cells) in enumerate(changes)]


def is_log_plate(value):
    """Whether any value is (group, at, many, home) and cells, as on a log plate."""
    if not isinstance(value, tuple) or not is_cells(value[LOG_NUMBERS:]):
        return False
    group, at, many, home = value[:LOG_NUMBERS]
    return is_whole(group, 0) and is_whole(many) and is_whole(at, 0, many - 1) and is_whole(home, 0)


def whole_group(disk, slots, slot, group):
    """The changes of the group with this number from this slot on, None if it is not whole."""
    first = disk.now(slot_plate(slots, slot))
    if not is_log_plate(first):
        return None
    many = first[2]
    if many > slots:
        return None
    changes = []
    for at in range(many):
        value = disk.now(slot_plate(slots, slot + at))
        if not is_log_plate(value) or value[:3] != (group, at, many):
            return None
        changes.append((value[3], value[LOG_NUMBERS:]))
    return tuple(changes)


def slots_of(groups):
    """How many slots groups fill together."""
    return sum([len(changes) for number, slot, changes in groups])


def read_groups(disk, slots, head):
    """The longest row of whole groups from a head on: triples (group, slot, changes)."""
    group, slot = head[1], head[2]
    groups = []
    changes = whole_group(disk, slots, slot, group)
    while changes is not None and slots_of(groups) + len(changes) <= slots:
        groups.append((group, slot, changes))
        group = group + 1
        slot = slot + len(changes)
        changes = whole_group(disk, slots, slot, group)
    return tuple(groups)


def last_seen(disk, slots):
    """The greatest group of all log plates in the ring, -1 without any."""
    greatest = -1
    for slot in range(slots):
        value = disk.now(slot_plate(slots, slot))
        if is_log_plate(value):
            greatest = max(greatest, value[0])
    return greatest
