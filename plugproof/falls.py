"""What can come up when the plug is pulled on a store, and by which choice."""

from plugproof.disk import check_moment, disk_after
from plugproof.shape import is_whole
from plugproof.storeerrors import BadMoment


def settled_events(trace, moment):
    """How many events of a trace are settled at a moment: those up to the last barrier."""
    for many in range(moment, 0, -1):
        if trace[many - 1][0] == "barrier":
            return many
    return 0


def loose_writes(trace, moment):
    """The list of (which event, plate, which loose version of it) of what is loose at a moment."""
    many = {}
    writes = []
    for event in range(settled_events(trace, moment), moment):
        plate = trace[event][1]
        many[plate] = many.get(plate, 0) + 1
        writes.append((event, plate, many[plate]))
    return writes


def groups_within(store, events):
    """How many groups end within the first so many events."""
    return len([end for end, deeds in store.pushed if end <= events])


def deeds_of(store, groups):
    """The deeds of the first so many groups."""
    return 0 if groups == 0 else store.pushed[groups - 1][1]


def written_groups(store, moment):
    """How many groups have all their log plates among the events at a moment."""
    check_moment(moment, len(store.trace))
    return groups_within(store, moment)


def settled_groups(store, moment):
    """How many groups have all their log plates ahead of the last barrier at a moment."""
    check_moment(moment, len(store.trace))
    return groups_within(store, settled_events(store.trace, moment))


def can_open(store, moment):
    """The ascending tuple of the numbers of deeds with which a store can come up."""
    settled = settled_groups(store, moment)
    written = written_groups(store, moment)
    return tuple([deeds_of(store, groups) for groups in range(settled, written + 1)])


def deeds_left(store, moment, choices):
    """The deeds of the most groups each plate of which is settled, or left at its version by some choice."""
    check_moment(moment, len(store.trace))
    for event, plate, number in loose_writes(store.trace, moment):
        # Groups are pushed one behind the other: none from this event on counts.
        if not any([choice.get(plate, 0) == number for choice in choices]):
            return deeds_of(store, groups_within(store, event))
    return deeds_of(store, groups_within(store, moment))


def opened_deeds(store, moment, choice):
    """With how many deeds a store comes up behind the fall that a choice tells."""
    return deeds_left(store, moment, (choice,))


def choice_for(store, moment, deeds):
    """A choice by which just so many deeds come up."""
    if not is_whole(deeds) or deeds not in can_open(store, moment):
        raise BadMoment(deeds)
    end = max([0] + [end for end, behind in store.pushed if behind <= deeds])
    return {plate: number for event, plate, number in loose_writes(store.trace, moment) if event < end}


def fallen_disk(store, moment, choice):
    """The disk of a store behind a moment, and behind the fall there that a choice tells."""
    return disk_after(store.begin, store.trace, moment).fallen(choice)
