"""Houses, and what their letters do to halls."""

from resetcalls.checks import check_house, check_lot, check_row, house_fault


def is_house(value):
    """Whether a value is a house: a pair (halls, maps)."""
    return house_fault(value) is None


def image(places, lot):
    """The lot to which one map leads a lot."""
    return tuple(sorted({places[hall] for hall in lot}))


def led(house, lot, row):
    """The lot to which a row leads a lot, letter behind letter."""
    check_house(house)
    halls, maps = house
    check_lot(halls, lot)
    check_row(len(maps), row)
    here = lot
    for letter in row:
        here = image(maps[letter], here)
    return here


def map_of(house, row):
    """The map that a row makes."""
    check_house(house)
    halls, maps = house
    check_row(len(maps), row)
    places = tuple(range(halls))
    for letter in row:
        places = tuple([maps[letter][hall] for hall in places])
    return places
