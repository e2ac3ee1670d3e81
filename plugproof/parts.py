"""The parts of a home that need changes, what each needs, and which least lots of units there are.

A part can be changed in some *ways*. A way is a list of pairs (units, left):
of these units all change but any one of `left`, which are equally dear; all of
them, if `left` is empty. Units that a way does not name stay. No lot of units
is of two ways.
"""

from plugproof.places import DIR, groups_of, is_unit, rings_of, units_by_up, wrong_units
from plugproof.readings import is_dir
from plugproof.shape import is_whole
from plugproof.storeerrors import BadPrices

WRONG = "wrong"
RING = "ring"
PLACE = "place"
FREE = "free"


class Part:
    """Units that no other part has: what needs changes among them hangs on none outside."""

    def __init__(self, kind, dirs, units):
        self.kind = kind
        self.dirs = dirs
        self.units = units

    def __eq__(self, other):
        return (isinstance(other, Part) and self.kind == other.kind
                and self.dirs == other.dirs and self.units == other.units)


def check_prices(shape, prices):
    """BadPrices for the first key that is no unit, or has no price."""
    for unit in prices:
        if not is_unit(shape, unit) or not is_whole(prices[unit], 1):
            raise BadPrices(unit)


def sum_of_prices(prices, units):
    """What units cost together; one without a price costs 1."""
    return sum([prices.get(unit, 1) for unit in units])


def dearest(prices, units):
    """Those of some units that have the greatest price."""
    most = max([prices.get(unit, 1) for unit in units], default=0)
    return tuple([unit for unit in units if prices.get(unit, 1) == most])


def ring_part(beneath, ring):
    """The part of a ring: all units beneath its directories."""
    units = []
    for up in ring:
        units.extend(beneath[up])
    return Part(RING, ring, tuple(sorted(units)))


def dir_part(shape, home, beneath, up):
    """The part of a directory in no ring: what lies beneath it, and itself, if it is free."""
    if is_dir(home, shape, up):
        return Part(PLACE, (up,), tuple(beneath[up]))
    return Part(FREE, (up,), tuple(sorted(beneath[up] + [(DIR, up)])))


def parts_of(shape, home):
    """The parts of a home: wrong units, then rings, then other directories with something beneath."""
    beneath = units_by_up(shape, home)
    parts = [Part(WRONG, (), (unit,)) for unit in wrong_units(shape, home)]
    in_ring = []
    for ring in rings_of(shape, home):
        parts.append(ring_part(beneath, ring))
        in_ring.extend(ring)
    for up in range(shape.dirs):
        if up in beneath and up not in in_ring:
            parts.append(dir_part(shape, home, beneath, up))
    return tuple(parts)


def ring_ways(prices, ring, leaving):
    """The ways to break a ring: in each one directory goes, and those of the ring ahead of it stay."""
    ways = []
    kept = list(leaving)
    for number in ring:
        unit = (DIR, number)
        at = [place for place, (units, left) in enumerate(leaving) if unit in units][0]
        group = leaving[at][0]
        way = list(kept)
        way[at] = (group, dearest(prices, tuple([other for other in group if other != unit])))
        ways.append(way)
        kept[at] = (group, (unit,))
    return ways


def ways_of(shape, home, prices, part):
    """The ways in which a part can be changed, each one as cheaply as it can be."""
    if part.kind == WRONG:
        return [[(part.units, ())]]
    groups = groups_of(shape, home, part.units)
    leaving = [(groups[place], dearest(prices, groups[place])) for place in groups]
    if part.kind == RING:
        return ring_ways(prices, part.dirs, leaving)
    if part.kind == PLACE:
        return [leaving]
    itself = (DIR, part.dirs[0])
    beneath = tuple([unit for unit in part.units if unit != itself])
    return [[((itself,), ())] + leaving, [(beneath, ())]]


def price_of_way(prices, way):
    """What a way costs: all of its units but the one that is left of each lot."""
    return sum([sum_of_prices(prices, units) - sum_of_prices(prices, left[:1]) for units, left in way])


def least_ways(shape, home, prices, part):
    """Those ways of a part that cost no more than another one."""
    ways = ways_of(shape, home, prices, part)
    least = min([price_of_way(prices, way) for way in ways])
    return [way for way in ways if price_of_way(prices, way) == least]


def needs_of(shape, home, prices, parts):
    """What each of some parts needs at least, as a tuple."""
    check_prices(shape, prices)
    return tuple([price_of_way(prices, least_ways(shape, home, prices, part)[0]) for part in parts])


def need_of(shape, home, prices, part):
    """What a part needs at least, whatever stands in the others."""
    return needs_of(shape, home, prices, (part,))[0]


def least_price(shape, home, prices):
    """What the least changes cost that make a home right."""
    return sum(needs_of(shape, home, prices, parts_of(shape, home)))


def lots_of_way(way):
    """How many lots of units a way has."""
    product = 1
    for units, left in way:
        product = product * max(1, len(left))
    return product


def count_lots(shape, home, prices):
    """How many unlike lots of units the least changes change."""
    check_prices(shape, prices)
    product = 1
    for part in parts_of(shape, home):
        product = product * sum([lots_of_way(way) for way in least_ways(shape, home, prices, part)])
    return product


def sure_of_way(way):
    """The units that all lots of a way change."""
    return [unit for units, left in way for unit in units if unit not in left]


def possible_of_way(way):
    """The units that some lot of a way changes."""
    return [unit for units, left in way for unit in units if left != (unit,)]


def sure_units(shape, home, prices):
    """The ascending tuple of the units that all least changes change."""
    check_prices(shape, prices)
    sure = []
    for part in parts_of(shape, home):
        told = [sure_of_way(way) for way in least_ways(shape, home, prices, part)]
        sure.extend([unit for unit in part.units if all([unit in units for units in told])])
    return tuple(sorted(sure))


def possible_units(shape, home, prices):
    """The ascending tuple of the units that some least changes change."""
    check_prices(shape, prices)
    possible = []
    for part in parts_of(shape, home):
        told = [possible_of_way(way) for way in least_ways(shape, home, prices, part)]
        possible.extend([unit for unit in part.units if any([unit in units for units in told])])
    return tuple(sorted(possible))
