"""Papers that show of a mending that less will not do."""

from plugproof.mending import mended, moved_to_found
from plugproof.parts import Part, check_prices, needs_of, parts_of, sum_of_prices
from plugproof.places import is_right, is_unit
from plugproof.shape import is_whole


class Paper:
    """Parts, what each of them needs at least, and units that cost no more together."""

    def __init__(self, parts, needs, units):
        self.parts = parts
        self.needs = needs
        self.units = units

    def __eq__(self, other):
        return (isinstance(other, Paper) and self.parts == other.parts
                and self.needs == other.needs and self.units == other.units)


def paper_of(shape, home, prices):
    """The paper of a home's least mending."""
    parts = parts_of(shape, home)
    needs = needs_of(shape, home, prices, parts)
    return Paper(parts, needs, mended(shape, home, prices).units)


def are_units(shape, thing):
    """Whether any thing is a tuple of units, each once."""
    if not isinstance(thing, tuple) or not all([is_unit(shape, unit) for unit in thing]):
        return False
    return all([thing.count(unit) == 1 for unit in thing])


def is_part(known, thing):
    """Whether any thing is one of the known parts."""
    if not isinstance(thing, Part) or thing not in known:
        return False
    # True is no directory, though it is equal to 1.
    return all([is_whole(number) for number in thing.dirs])


def are_parts(shape, home, things):
    """Whether any thing is a tuple of parts, no two with a common unit."""
    known = parts_of(shape, home)
    if not isinstance(things, tuple) or not all([is_part(known, thing) for thing in things]):
        return False
    return are_units(shape, tuple([unit for part in things for unit in part.units]))


def are_needs(shape, home, prices, paper):
    """Whether a paper, whose parts are parts, tells what they need."""
    if not isinstance(paper.needs, tuple) or not all([is_whole(need) for need in paper.needs]):
        return False
    return paper.needs == needs_of(shape, home, prices, paper.parts)


def paper_holds(shape, home, prices, paper):
    """Whether any value is a paper that shows of its units that they are least."""
    check_prices(shape, prices)
    if not isinstance(paper, Paper) or not are_parts(shape, home, paper.parts):
        return False
    if not are_needs(shape, home, prices, paper) or not are_units(shape, paper.units):
        return False
    if sum_of_prices(prices, paper.units) != sum(paper.needs):
        return False
    return is_right(shape, moved_to_found(shape, home, paper.units))
