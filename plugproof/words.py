"""Words of lines: whole numbers, written without needless figures or signs."""

FIGURES = "0123456789"
# Python itself reads no more than 4300 figures.
MOST_FIGURES = 4000


def is_number_word(word):
    """Whether a word is a whole number as it is written here."""
    figures = word[1:] if word.startswith("-") else word
    if not 1 <= len(figures) <= MOST_FIGURES:
        return False
    if not all([figure in FIGURES for figure in figures]):
        return False
    return figures[0] != "0" or word == "0"


def is_number_within(word, low, high):
    """Whether a word is a whole number from low to high."""
    return is_number_word(word) and low <= int(word) <= high


def word_at(words, place):
    """A word of a line; a lacking one is empty, which can stand nowhere."""
    return words[place] if place < len(words) else ""
