"""The least mending of a home: it makes a right one, and no right one is nearer."""

from plugproof.parts import check_prices, least_ways, parts_of, sum_of_prices
from plugproof.places import DIR, all_units, place_of, unit_cell, value_at
from plugproof.readings import dir_value, row_at, row_value
from plugproof.shape import FOUND

# What a free unit is called that is moved to found: the name `a`.
FREE_NAME = 0


class Mended:
    """What mending costs, which units it changes, and the home behind it."""

    def __init__(self, price, units, plates):
        self.price = price
        self.units = units
        self.plates = plates


def price_between(shape, home, other, prices):
    """What those units cost whose number is another one in the other home."""
    check_prices(shape, prices)
    units = all_units(shape)
    changed = [unit for unit in units if value_at(shape, home, unit) != value_at(shape, other, unit)]
    return sum_of_prices(prices, changed)


def found_value(shape, home, unit):
    """What stands in a unit's cell when it is moved to found."""
    place = place_of(shape, home, unit)
    name = FREE_NAME if place is None else place[1]
    if unit[0] == DIR:
        return dir_value(FOUND, name)
    row = row_at(home, shape, unit[1])
    return row_value(shape, FOUND, name, 0 if row is None else row[2])


def moved_to_found(shape, home, units):
    """A new home with these units moved to found, by the names that they had."""
    plates = dict(home)
    for unit in units:
        plate, at = unit_cell(shape, unit)
        cells = plates[plate]
        plates[plate] = cells[:at] + (found_value(shape, home, unit),) + cells[at + 1:]
    return plates


def least_lot(shape, home, prices, part):
    """The units of one of a part's least lots."""
    way = least_ways(shape, home, prices, part)[0]
    return [unit for units, left in way for unit in units if unit not in left[:1]]


def mended(shape, home, prices):
    """The least mending of a home."""
    check_prices(shape, prices)
    units = []
    for part in parts_of(shape, home):
        units.extend(least_lot(shape, home, prices, part))
    return Mended(sum_of_prices(prices, units), tuple(sorted(units)), moved_to_found(shape, home, units))
