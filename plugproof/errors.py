"""The errors of the whole program; those of the lower half are in storeerrors."""


class StoreError(Exception):
    """What each error of the program is."""


class BadShape(StoreError):
    """A shape whose number of this name is out of its range."""

    def __init__(self, word):
        self.word = word


class Refused(StoreError):
    """A call of a user that is refused, with the word for why."""

    def __init__(self, word):
        self.word = word


class BadScript(StoreError):
    """A script whose word here, counted from 0, cannot stand there."""

    def __init__(self, line, word):
        self.line = line
        self.word = word


class BadImage(StoreError):
    """An image whose word here, counted from 0, cannot stand there."""

    def __init__(self, line, word):
        self.line = line
        self.word = word
