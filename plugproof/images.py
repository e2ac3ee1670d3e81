"""Homes as lines of words, there and back."""

from plugproof.disktexts import check_word
from plugproof.shape import WIDTH, Shape
from plugproof.words import is_number_within, is_short_number_word, word_at

FIRST_WORD = "shape"
SHAPE_NUMBERS = 5


def line_of(numbers):
    """The words of numbers, with a blank between."""
    return " ".join([str(number) for number in numbers])


def write_image(shape, home):
    """The lines that tell a shape, and a home's plates that are not all 0."""
    lines = [FIRST_WORD + " " + line_of(shape.told())]
    for plate in range(shape.plates):
        if home[plate] != (0,) * WIDTH:
            lines.append(line_of((plate,) + home[plate]))
    return tuple(lines)


def read_numbers(line, words, many):
    """So many numbers behind the first word of a line; no word may stand behind them."""
    for place in range(1, many + 1):
        check_word(is_short_number_word(word_at(words, place)), line, place)
    check_word(len(words) == many + 1, line, many + 1)
    return tuple([int(word) for word in words[1:]])


def read_shape(lines):
    """The shape that the first line tells."""
    words = lines[0].split(" ") if len(lines) > 0 else []
    check_word(word_at(words, 0) == FIRST_WORD, 0, 0)
    dirs, rows, files, blocks, users = read_numbers(0, words, SHAPE_NUMBERS)
    return Shape(dirs, rows, files, blocks, users)


def read_image(lines):
    """The pair of the shape and the home that lines tell; BadImage for the first word that cannot stand there."""
    shape = read_shape(lines)
    home = {plate: (0,) * WIDTH for plate in range(shape.plates)}
    low = 0
    for line in range(1, len(lines)):
        words = lines[line].split(" ")
        check_word(is_number_within(words[0], low, shape.plates - 1), line, 0)
        home[int(words[0])] = read_numbers(line, words, WIDTH)
        low = int(words[0]) + 1
    return shape, home
