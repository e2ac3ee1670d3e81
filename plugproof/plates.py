"""Cells, and dicts of changes from home plates to cells."""

from plugproof.shape import WIDTH, is_whole
from plugproof.storeerrors import BadCells, BadPlate


def is_cells(value):
    """Whether any value is a tuple of 8 whole numbers."""
    if not isinstance(value, tuple) or len(value) != WIDTH:
        return False
    return all([is_whole(number) for number in value])


def checked_changes(plates, changes):
    """The pairs (home plate, cells) of a dict, ascending, as a tuple."""
    for plate in changes:
        if not is_whole(plate, 0, plates - 1):
            raise BadPlate(plate)
    # Sorted by plates alone: the values can be anything as yet.
    for plate in sorted(changes):
        if not is_cells(changes[plate]):
            raise BadCells(plate)
    return tuple([(plate, changes[plate]) for plate in sorted(changes)])
