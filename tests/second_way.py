"""Answers worked out in another way than the package does: by trying rows in order."""

import itertools

from tests.samples import lots_of


def walked(house, hall, row):
    """The hall where a row ends that begins in a hall."""
    for letter in row:
        hall = house[1][letter][hall]
    return hall


def ends(house, lot, row):
    """The ascending tuple of the halls where a row ends that begins in a lot."""
    return tuple(sorted({walked(house, hall, row) for hall in lot}))


def maps_by_rows(house):
    """All maps that rows make, () too, until no further letter makes a new one."""
    halls, letters = house
    made = {tuple(range(halls))}
    while True:
        more = {tuple(places[hall] for hall in first) for first in made for places in letters} - made
        if not more:
            return made
        made |= more


def images(maps, lot):
    """The lots to which maps lead a lot."""
    return {tuple(sorted({places[hall] for hall in lot})) for places in maps}


def rows_in_order(house, most):
    """All rows of at most so many letters, the shorter first, then the lesser."""
    for many in range(most + 1):
        yield from itertools.product(range(len(house[1])), repeat=many)


def first_row(house, lot, many, most):
    """The first row in order to at most so many halls, None if none is short enough."""
    for row in rows_in_order(house, most):
        if len(ends(house, lot, row)) <= many:
            return row
    return None


def lots_by_rows(house):
    """All lots to which rows lead all halls, until no further letter makes a new one."""
    found = {tuple(range(house[0]))}
    while True:
        more = {ends(house, lot, (letter,)) for lot in found for letter in range(len(house[1]))} - found
        if not more:
            return found
        found |= more


def row_by_distances(house, lot, many):
    """The least of the shortest rows from a lot to at most so many halls, None without any.

    It works backward from the lots that are small enough, then takes the least
    letter at each step that comes nearer: for houses with too many rows to try.
    """
    distances = distances_to(house, many)
    if lot not in distances:
        return None
    row = []
    while distances[lot] > 0:
        letter = min(letter for letter in range(len(house[1]))
                     if distances.get(ends(house, lot, (letter,))) == distances[lot] - 1)
        row.append(letter)
        lot = ends(house, lot, (letter,))
    return tuple(row)


def distances_to(house, many):
    """For each lot from which rows lead to so many halls, how many letters that takes."""
    distances = {lot: 0 for lot in lots_of(house[0]) if len(lot) <= many}
    steps = 0
    while True:
        near = [lot for lot in lots_of(house[0]) if lot not in distances
                and any(ends(house, lot, (letter,)) in distances for letter in range(len(house[1])))]
        if not near:
            return distances
        steps += 1
        distances.update((lot, steps) for lot in near)
