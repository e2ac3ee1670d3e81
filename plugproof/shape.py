"""What a disk has room for, where its home plates stand, and names."""

from plugproof.errors import BadShape

WIDTH = 8
NAMES = 475254
MOST_BLOCKS = 75
MOST_SIZE = 600
ROOT = 0
FOUND = 1

# Behind the clock's plate.
FIRST_DIR = 1
LETTERS = "abcdefghijklmnopqrstuvwxyz"
MOST_LETTERS = 4
RANGES = (("dirs", 2, 40), ("rows", 1, 60), ("files", 1, 40), ("blocks", 1, 200), ("users", 1, 4))


def is_whole(thing, low=None, high=None):
    """Whether any thing is a whole number, not below low, not above high."""
    # True and False are ints to Python, but no numbers here.
    if not isinstance(thing, int) or isinstance(thing, bool):
        return False
    if low is not None and thing < low:
        return False
    return high is None or thing <= high


def is_name(thing):
    """Whether any thing is a text of 1 to 4 letters from a to z."""
    if not isinstance(thing, str) or not 1 <= len(thing) <= MOST_LETTERS:
        return False
    return all([letter in LETTERS for letter in thing])


def number_of(name):
    """The number of a name: shorter names first, then as in a dictionary."""
    number = 0
    for letter in name:
        number = number * len(LETTERS) + LETTERS.index(letter) + 1
    return number - 1


def name_of(number):
    """The name with a number from 0 on."""
    name = ""
    # There is no letter for nought: each place counts its letters from 1 on.
    left = number + 1
    while left > 0:
        name = LETTERS[(left - 1) % len(LETTERS)] + name
        left = (left - 1) // len(LETTERS)
    return name


def plates_for(cells):
    """How many plates so many cells fill."""
    return (cells + WIDTH - 1) // WIDTH


class Shape:
    """How much a disk has room for, and where each kind of home plates begins."""

    def __init__(self, dirs, rows, files, blocks, users):
        for number, (word, low, high) in zip((dirs, rows, files, blocks, users), RANGES):
            if not is_whole(number, low, high):
                raise BadShape(word)
        self.dirs = dirs
        self.rows = rows
        self.files = files
        self.blocks = blocks
        self.users = users
        self.first_row = FIRST_DIR + plates_for(dirs)
        self.first_user = self.first_row + plates_for(rows)
        self.first_file = self.first_user + plates_for(users)
        self.first_block = self.first_file + files
        self.plates = self.first_block + blocks

    def __eq__(self, other):
        return isinstance(other, Shape) and self.told() == other.told()

    def told(self):
        """The five numbers that the shape was made with."""
        return self.dirs, self.rows, self.files, self.blocks, self.users

    def clock_cell(self):
        """The place of the clock: its plate, and its place there."""
        return 0, 0

    def dir_cell(self, number):
        """The place of a directory's cell: its plate, and its place there."""
        return FIRST_DIR + number // WIDTH, number % WIDTH

    def row_cell(self, number):
        """The place of a row's cell: its plate, and its place there."""
        return self.first_row + number // WIDTH, number % WIDTH

    def user_cell(self, user):
        """The place of a user's cell: its plate, and its place there."""
        return self.first_user + user // WIDTH, user % WIDTH

    def file_plate(self, file):
        """The plate of a file."""
        return self.first_file + file

    def block_plate(self, block):
        """The plate of a block."""
        return self.first_block + block

    def empty_home(self):
        """A new dict of all plates with 0 everywhere, but each user's limit: all blocks."""
        home = {plate: (0,) * WIDTH for plate in range(self.plates)}
        limits = (self.blocks,) * self.users
        home[self.first_user] = limits + (0,) * (WIDTH - self.users)
        return home
