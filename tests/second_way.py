"""Answers worked out in another way than the package does: by trying rows in order."""

import itertools

from tests.samples import lots_of, nets_of


def walked(house, hall, row):
    """The hall where a row ends that begins in a hall."""
    for letter in row:
        hall = house[1][letter][hall]
    return hall


def ends(house, lot, row):
    """The ascending tuple of the halls where a row ends that begins in a lot."""
    return tuple(sorted({walked(house, hall, row) for hall in lot}))


def maps_by_rows(house):
    """All maps that rows make, () too, until no further letter makes a new one."""
    halls, letters = house
    made = {tuple(range(halls))}
    while True:
        more = {tuple(places[hall] for hall in first) for first in made for places in letters} - made
        if not more:
            return made
        made |= more


def images(maps, lot):
    """The lots to which maps lead a lot."""
    return {tuple(sorted({places[hall] for hall in lot})) for places in maps}


def rows_in_order(house, most):
    """All rows of at most so many letters, the shorter first, then the lesser."""
    for many in range(most + 1):
        yield from itertools.product(range(len(house[1])), repeat=many)


def first_row(house, lot, many, most):
    """The first row in order to at most so many halls, None if none is short enough."""
    for row in rows_in_order(house, most):
        if len(ends(house, lot, row)) <= many:
            return row
    return None


def lots_by_rows(house):
    """All lots to which rows lead all halls, until no further letter makes a new one."""
    found = {tuple(range(house[0]))}
    while True:
        more = {ends(house, lot, (letter,)) for lot in found for letter in range(len(house[1]))} - found
        if not more:
            return found
        found |= more


def row_by_distances(house, lot, many):
    """The least of the shortest rows from a lot to at most so many halls, None without any.

    It works backward from the lots that are small enough, then takes the least
    letter at each step that comes nearer: for houses with too many rows to try.
    """
    distances = distances_to(house, many)
    if lot not in distances:
        return None
    row = []
    while distances[lot] > 0:
        letter = min(letter for letter in range(len(house[1]))
                     if distances.get(ends(house, lot, (letter,))) == distances[lot] - 1)
        row.append(letter)
        lot = ends(house, lot, (letter,))
    return tuple(row)


def distances_to(house, many):
    """For each lot from which rows lead to so many halls, how many letters that takes."""
    distances = {lot: 0 for lot in lots_of(house[0]) if len(lot) <= many}
    steps = 0
    while True:
        near = [lot for lot in lots_of(house[0]) if lot not in distances
                and any(ends(house, lot, (letter,)) in distances for letter in range(len(house[1])))]
        if not near:
            return distances
        steps += 1
        distances.update((lot, steps) for lot in near)


def tied(net, one, other):
    """Whether two halls are tied, in whatever order."""
    return any(set(tie) == {one, other} and one != other for tie in net)


def clique_by_lots(halls, net):
    """The least of the greatest cliques, of all lots."""
    cliques = [lot for lot in lots_of(halls)
               if all(tied(net, one, other) for one, other in itertools.combinations(lot, 2))]
    return min(cliques, key=lambda lot: (-len(lot), lot))


def colours_by_tuples(halls, net):
    """The least tuple with as few unlike numbers as can be, of all that are unlike for ties.

    Each tuple is tried whose numbers come in order at their first places; the
    others are no less, for their numbers can be given new names in this order.
    """
    tuples = [()]
    for _ in range(halls):
        tuples = [begun + (number,) for begun in tuples for number in range(len(set(begun)) + 1)]
    right = [numbers for numbers in tuples if all(numbers[one] != numbers[other] for one, other in net)]
    return min(right, key=lambda numbers: (len(set(numbers)), numbers))


def colours_by_all_tuples(halls, net):
    """The same of all tuples of numbers, with none left out: for few halls."""
    right = [numbers for numbers in itertools.product(range(halls), repeat=halls)
             if all(numbers[one] != numbers[other] for one, other in net)]
    return min(right, key=lambda numbers: (len(set(numbers)), numbers))


def bars(halls, net):
    """Whether a net is barring."""
    return net != () and len(clique_by_lots(halls, net)) == len(set(colours_by_tuples(halls, net)))


def kept_by(maps, net):
    """Whether maps lead tied halls to tied ones."""
    return all(tied(net, places[one], places[other]) for places in maps for one, other in net)


def kept_of_all_nets(house):
    """All nets that are kept by all maps that rows make, of all nets."""
    maps = maps_by_rows(house)
    return [net for net in nets_of(house[0]) if kept_by(maps, net)]


def never_met(house):
    """All two halls that no map that rows make leads to one."""
    maps = maps_by_rows(house)
    return tuple((one, other) for one, other in itertools.combinations(range(house[0]), 2)
                 if all(places[one] != places[other] for places in maps))


def each_two_meet(halls, maps):
    """Whether each two halls meet, so that there is a reset; worked out backward."""
    pairs = list(itertools.combinations(range(halls), 2))
    met = {(hall, hall) for hall in range(halls)}
    while True:
        near = {pair for pair in pairs if pair not in met
                and any(tuple(sorted((places[pair[0]], places[pair[1]]))) in met for places in maps)}
        if not near:
            return len(met) == halls + len(pairs)
        met |= near


def may_bar(house, value):
    """Whether a tuple of three tuples bars a reset, whatever integers are in it."""
    net, clique, numbers = value
    halls = house[0]
    return (net in nets_of(halls) and kept_by(house[1], net)
            and clique in lots_of(halls) and len(clique) >= 2
            and all(tied(net, one, other) for one, other in itertools.combinations(clique, 2))
            and numbers in set(itertools.product(range(len(clique)), repeat=halls))
            and not any(tied(net, one, other) and numbers[one] == numbers[other]
                        for one in range(halls) for other in range(halls)))


def partings_by_numbers(halls):
    """All partings, ascending: the halls with equal numbers, for all tuples of numbers."""
    tuples = itertools.product(range(halls), repeat=halls)
    return sorted({tuple(sorted(tuple(hall for hall in range(halls) if numbers[hall] == number)
                                for number in set(numbers))) for numbers in tuples})


def partings_kept_by(maps, halls):
    """All partings, ascending, each part of which all maps lead to a part."""
    return [parting for parting in partings_by_numbers(halls)
            if all({places[hall] for hall in part} in map(set, parting) for places in maps for part in parting)]


def sections_of(house):
    """All sections of a group, of all partings and lots, behind all maps that rows make."""
    halls = house[0]
    maps = maps_by_rows(house)
    return {(parting, lot) for parting in partings_by_numbers(halls) for lot in lots_of(halls)
            if 2 <= len(parting) < halls and len(lot) == len(parting)
            and all(len({places[hall] for hall in lot} & set(part)) == 1 for places in maps for part in parting)}
