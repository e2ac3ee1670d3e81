"""Words of lines: whole numbers, written without needless figures or signs."""

FIGURES = "0123456789"
# The lines of disks and images have no greater numbers; those of scripts may.
MOST_FIGURES = 4000
# A number is read and written by parts of so many figures, as Python itself stops at 4300, or at less.
PART_FIGURES = 64
PART_BASE = 10 ** 64


def is_number_word(word):
    """Whether a word is a whole number as it is written here, however many figures it has."""
    figures = figures_of(word)
    if figures == "" or not all([figure in FIGURES for figure in figures]):
        return False
    return figures[0] != "0" or word == "0"


def is_short_number_word(word):
    """Whether a word is a whole number that can stand in the lines of disks and images."""
    return len(figures_of(word)) <= MOST_FIGURES and is_number_word(word)


def is_number_within(word, low, high):
    """Whether a word is a whole number from low to high, with few enough figures for disks and images."""
    return is_short_number_word(word) and low <= int(word) <= high


def figures_of(word):
    """A number's word without its sign."""
    return word[1:] if word.startswith("-") else word


def number_told(word):
    """The whole number that a word tells."""
    figures = figures_of(word)
    parts = [int(figures[max(0, end - PART_FIGURES):end]) for end in range(len(figures), 0, -PART_FIGURES)]
    base = PART_BASE
    # The last figures come first; each round puts two parts together, and so needs the square of the base.
    while len(parts) > 1:
        parts = parts + [0] * (len(parts) % 2)
        parts = [parts[place] + parts[place + 1] * base for place in range(0, len(parts), 2)]
        base = base * base
    return -parts[0] if word.startswith("-") else parts[0]


def bases_up_to(number):
    """The base of a part, its square, the square of that, and so on, as long as none is greater than a number."""
    bases = []
    base = PART_BASE
    while base <= number:
        bases.append(base)
        base = base * base
    return bases


def number_text(number):
    """The word of a whole number."""
    parts = [abs(number)]
    for base in reversed(bases_up_to(abs(number))):
        parts = [half for part in parts for half in divmod(part, base)]
    figures = "".join([str(part).zfill(PART_FIGURES) for part in parts]).lstrip("0")
    if figures == "":
        return "0"
    return figures if number > 0 else "-" + figures


def word_at(words, place):
    """A word of a line; a lacking one is empty, which can stand nowhere."""
    return words[place] if place < len(words) else ""
