"""Groups of turns: the nets that they keep, and the maps with which they reset."""

from resetcalls.bars import bar_by, is_bar
from resetcalls.calls import is_reset_by, rows_from
from resetcalls.checks import check_house, check_map, check_turns, is_map, is_one_to_one
from resetcalls.errors import TooMany
from resetcalls.nets import is_barring, whole_net

MOST_NETS = 4096


def pair_lots(house):
    """The ascending tuple of the lots of ties that the group leads to one another."""
    check_turns(house)
    # Rows of turns lead back, too: what they lead a tie to is its whole lot.
    return tuple(sorted({tuple(sorted(rows_from(house, tie))) for tie in whole_net(house[0])}))


def kept_nets(house):
    """The ascending tuple of all nets that the group keeps."""
    nets = [()]
    for ties in pair_lots(house):
        nets = nets + [net + ties for net in nets]
        if len(nets) > MOST_NETS:
            raise TooMany(MOST_NETS)
    return tuple(sorted([tuple(sorted(net)) for net in nets]))


def is_barring_in_part(halls, net):
    """Whether a net is barring and not the whole one."""
    return net != whole_net(halls) and is_barring(halls, net)


def barring_nets(house):
    """The ascending tuple of the barring nets that the group keeps, but the whole one."""
    nets = kept_nets(house)
    return tuple([net for net in nets if is_barring_in_part(house[0], net)])


def group_bar(house):
    """A triple (net, clique, colours) of a barring net that the group keeps, but the whole one.

    None if the group resets with every map that isn't one to one.
    """
    for net in kept_nets(house):
        if is_barring_in_part(house[0], net):
            return bar_by(house[0], net)
    return None


def shows_group_bar(house, value):
    """Whether a value is what group_bar may return."""
    check_turns(house)
    if value is None:
        return resets_all(house)
    return is_bar(house, value) and value[0] != whole_net(house[0])


def resets_with(house, places=None, **more):
    """Whether the letters and a map together have a reset.

    The map stands behind the house, or is named: resets_with(house, map=(0, 0)).
    """
    # The interface names the map by a builtin's name, which no parameter here may have.
    places = more.get("map", places)
    check_house(house)
    halls, maps = house
    check_map(halls, places)
    return is_reset_by(halls, maps + (places,))


def resets_all(house):
    """Whether the group resets with every map that isn't one to one."""
    return group_bar(house) is None


def resisting(house):
    """A map that isn't one to one and has no reset with the group, None without any."""
    found = group_bar(house)
    if found is None:
        return None
    _, clique, numbers = found
    # It leads tied halls to unlike halls of the clique, so it keeps the net as the group does,
    # and the clique stays apart. A net that is not the whole one needs fewer colours than halls.
    return tuple([clique[number] for number in numbers])


def shows_resisting(house, value):
    """Whether a value is what resisting may return."""
    check_turns(house)
    if value is None:
        return resets_all(house)
    halls, maps = house
    if not is_map(halls, value) or is_one_to_one(value):
        return False
    return not is_reset_by(halls, maps + (value,))
