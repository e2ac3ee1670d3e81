"""Drafts: what would be behind changes that are not put into a store."""


class Draft:
    """A home and how often its blocks are met, as they would be behind some changes."""

    def __init__(self, shape, home, counts, pins):
        self.shape = shape
        self.home = dict(home)
        self.counts = list(counts)
        self.pins = pins
        self.changes = {}

    def put(self, number, plate):
        """A plate gets these cells."""
        self.home[number] = plate
        self.changes[number] = plate

    def put_cell(self, place, value):
        """A cell gets this number; a place is a pair (plate, place on it)."""
        number, at = place
        cells = self.home[number]
        self.put(number, cells[:at] + (value,) + cells[at + 1:])

    def cell(self, place):
        """What stands in a cell."""
        number, at = place
        return self.home[number][at]

    def count(self, block):
        """How often a block is met in the files that count."""
        return self.counts[block]

    def put_count(self, block, value):
        """A block is met so often from now on."""
        self.counts[block] = value

    def tick(self):
        """The clock goes on by 1: the new time."""
        time = self.cell(self.shape.clock_cell()) + 1
        self.put_cell(self.shape.clock_cell(), time)
        return time
