"""Nets of tied halls: which maps keep them, their cliques and their colours."""

from itertools import combinations

from resetcalls.checks import check_house, check_net, check_number_of_halls


def whole_net(halls):
    """The net of all ties."""
    return tuple(combinations(range(halls), 2))


def leads_to_ties(net, places):
    """Whether a map leads the halls of each tie to two halls that are tied."""
    ties = set(net)
    return all([tuple(sorted((places[one], places[other]))) in ties for one, other in net])


def keeps(house, net):
    """Whether all letters lead the halls of each tie to two halls that are tied."""
    check_house(house)
    check_net(house[0], net)
    return all([leads_to_ties(net, places) for places in house[1]])


def wider_cliques(halls, net, cliques):
    """The cliques with one hall more, which stands behind those of a clique.

    They ascend if the cliques do.
    """
    ties = set(net)
    return [
        clique + (hall,) for clique in cliques for hall in range(clique[-1] + 1, halls)
        if all([(one, hall) in ties for one in clique])
    ]


def greatest_clique(halls, net):
    """The least of the greatest ascending tuples of halls that are tied each to each."""
    check_number_of_halls(halls)
    check_net(halls, net)
    least = ()
    cliques = [(hall,) for hall in range(halls)]
    while cliques:
        least = cliques[0]
        cliques = wider_cliques(halls, net, cliques)
    return least


def least_numbers(halls, net, many, begun):
    """The least tuple that begins so and has a number below `many` for each hall.

    Tied halls have unlike numbers in it; None if there is no such tuple.
    """
    hall = len(begun)
    if hall == halls:
        return begun
    taken = [begun[one] for one, other in net if other == hall]
    for number in range(many):
        if number not in taken:
            numbers = least_numbers(halls, net, many, begun + (number,))
            if numbers is not None:
                return numbers
    return None


def colours(halls, net):
    """The least tuple of numbers, as few as can be, that differ for tied halls."""
    # The halls of a clique have unlike numbers, so fewer need not be tried.
    many = len(greatest_clique(halls, net))
    numbers = least_numbers(halls, net, many, ())
    while numbers is None:
        many += 1
        numbers = least_numbers(halls, net, many, ())
    return numbers


def least_colours(halls, net):
    """How many unlike numbers the halls need if tied ones have unlike ones."""
    return len(set(colours(halls, net)))


def is_barring(halls, net):
    """Whether a net has a tie, and a clique of as many halls as it needs colours."""
    clique = greatest_clique(halls, net)
    return net != () and len(clique) == least_colours(halls, net)
