"""Disks as lines of words, there and back."""

from plugproof.disk import TORN, Disk
from plugproof.errors import BadImage
from plugproof.words import is_number_within, is_short_number_word, word_at

MOST_PLATES = 1000


def value_text(value):
    """The word of what can stand on a plate."""
    if value is None:
        return "torn"
    if value == ():
        return "empty"
    return ",".join([str(number) for number in value])


def write_disk(disk):
    """The lines that tell what stands on a disk, settled and loose."""
    lines = [f"disk {len(disk.settled)}"]
    for plate, value in enumerate(disk.settled):
        if value != ():
            lines.append(f"plate {plate} {value_text(value)}")
    for plate, value in disk.loose:
        lines.append(f"loose {plate} {value_text(value)}")
    return tuple(lines)


def is_value_word(word):
    """Whether a word tells what can stand on a plate."""
    return word in ("torn", "empty") or all([is_short_number_word(part) for part in word.split(",")])


def value_of(word):
    """What stands on a plate, by its word."""
    if word == "torn":
        return TORN
    if word == "empty":
        return ()
    return tuple([int(part) for part in word.split(",")])


def check_word(holds, line, word):
    """BadImage with this line and word, if what must hold of it does not."""
    if not holds:
        raise BadImage(line, word)


def read_many(lines):
    """How many plates the first line tells."""
    words = lines[0].split(" ") if len(lines) > 0 else []
    check_word(word_at(words, 0) == "disk", 0, 0)
    check_word(is_number_within(word_at(words, 1), 1, MOST_PLATES), 0, 1)
    check_word(len(words) == 2, 0, 2)
    return int(words[1])


def read_line(line, words, low, many, kinds):
    """The triple (kind, plate, value) of a line whose plate is from low to many - 1."""
    kind = word_at(words, 0)
    check_word(kind in kinds, line, 0)
    first = low if kind == "plate" else 0
    check_word(is_number_within(word_at(words, 1), first, many - 1), line, 1)
    value = word_at(words, 2)
    check_word(is_value_word(value) and (kind, value) != ("plate", "empty"), line, 2)
    check_word(len(words) == 3, line, 3)
    return kind, int(words[1]), value_of(value)


def read_disk(lines):
    """The disk that lines tell; BadImage for the first word that cannot stand there."""
    many = read_many(lines)
    disk = Disk(many)
    loose = []
    low = 0
    for line in range(1, len(lines)):
        kinds = ("plate", "loose") if len(loose) == 0 else ("loose",)
        kind, plate, value = read_line(line, lines[line].split(" "), low, many, kinds)
        if kind == "loose":
            loose.append((plate, value))
        else:
            disk.write(plate, value)
            low = plate + 1
    # What the plate lines tell is settled; only then what is loose is written over it.
    disk.barrier()
    for plate, value in loose:
        disk.write(plate, value)
    return disk
