"""Heads: where a store's groups that are not home yet begin."""

from plugproof.shape import is_whole
from plugproof.storeerrors import NoHead

HEAD_PLATES = 2
HEAD_NUMBERS = 3


def head_plate(number):
    """The plate of the head with this number: 0 and 1 by turns."""
    return number % HEAD_PLATES


def is_head(plate, value):
    """Whether any value is a head that can stand on this plate."""
    if not isinstance(value, tuple) or len(value) != HEAD_NUMBERS:
        return False
    if not all([is_whole(number, 0) for number in value]):
        return False
    return head_plate(value[0]) == plate


def read_head(disk):
    """Of the heads that can be read, the one with the greatest number."""
    heads = []
    for plate in range(HEAD_PLATES):
        value = disk.now(plate)
        if is_head(plate, value):
            heads.append(value)
    if len(heads) == 0:
        raise NoHead()
    return max(heads)
