"""The errors of the lower half: disks, stores, falls and the examiner."""

from plugproof.errors import StoreError


class BadPlate(StoreError):
    """What should be the number of a plate, and is none."""

    def __init__(self, plate):
        self.plate = plate


class BadCells(StoreError):
    """A home plate that was to get what is no cells."""

    def __init__(self, plate):
        self.plate = plate


class TooGreat(StoreError):
    """A deed with so many plates that the ring has no room for it."""

    def __init__(self, many):
        self.many = many


class BadChoice(StoreError):
    """A plate of a choice that is none, or cannot stand as was chosen."""

    def __init__(self, plate):
        self.plate = plate


class NoHead(StoreError):
    """A disk without a head that can be read."""


class BadMoment(StoreError):
    """A number of events, or of deeds, that cannot be asked for."""

    def __init__(self, many):
        self.many = many


class BadPrices(StoreError):
    """A key of prices that is no unit, or has no price from 1 on."""

    def __init__(self, unit):
        self.unit = unit
