"""What bars a reset: a net that is kept, with a clique of as many halls as colours do for it."""

from resetcalls.calls import has_reset, meeting
from resetcalls.checks import check_house, is_lot, is_net, is_number
from resetcalls.nets import colours, greatest_clique, keeps, whole_net


def bar_by(halls, net):
    """The triple of a net with its greatest clique and its colours."""
    return (net, greatest_clique(halls, net), colours(halls, net))


def is_clique(halls, net, value):
    """Whether a value is an ascending tuple of at least two halls tied each to each."""
    if not is_lot(halls, value) or len(value) < 2:
        return False
    ties = set(net)
    return all([(one, other) in ties for at, one in enumerate(value) for other in value[at + 1:]])


def are_colours(halls, net, many, value):
    """Whether a value has a number below `many` for each hall, unlike ones for tied halls."""
    if not isinstance(value, tuple) or len(value) != halls:
        return False
    if not all([is_number(number, 0, many - 1) for number in value]):
        return False
    return all([value[one] != value[other] for one, other in net])


def is_bar(house, value):
    """Whether a value is a triple that bars a reset of a house."""
    if not isinstance(value, tuple) or len(value) != 3:
        return False
    halls = house[0]
    net, clique, numbers = value
    if not is_net(halls, net) or not keeps(house, net) or not is_clique(halls, net, clique):
        return False
    return are_colours(halls, net, len(clique), numbers)


def never_meet(house):
    """The net of all two halls that no row leads to one."""
    check_house(house)
    ties = whole_net(house[0])
    return tuple([(one, other) for one, other in ties if meeting(house, one, other) is None])


def bar(house):
    """A triple (net, clique, colours) that bars a reset, None if there is a reset."""
    net = never_meet(house)
    if net == ():
        return None
    # A row that leads all to as few halls as can be leads them to a clique of this net: two of
    # its halls that met would leave fewer. The places where it leads the halls are colours: two
    # halls that it leads to one are not tied. So the net is barring.
    return bar_by(house[0], net)


def shows_bar(house, value):
    """Whether a value is what bar may return."""
    check_house(house)
    if value is None:
        return has_reset(house)
    return is_bar(house, value)
