"""Partings of the halls that a group of turns keeps, and its sections."""

from resetcalls.calls import rows_from
from resetcalls.checks import check_turns, is_ascending, is_lot
from resetcalls.errors import TooMany
from resetcalls.groups import group_bar, pair_lots, resets_all
from resetcalls.houses import image

MOST_PARTINGS = 100


def with_hall(parting, hall):
    """The partings in which a further hall joins one of the parts, or is one by itself."""
    joined = [parting[:at] + (part + (hall,),) + parting[at + 1:] for at, part in enumerate(parting)]
    return joined + [parting + ((hall,),)]


def all_partings(halls):
    """All partings of so many halls.

    The halls come in their order, so parts and partings ascend as they are built.
    """
    partings = [()]
    for hall in range(halls):
        partings = [wider for parting in partings for wider in with_hall(parting, hall)]
    return partings


def leads_to_parts(places, parting):
    """Whether a map leads each part to a part."""
    return all([image(places, part) in parting for part in parting])


def partings_kept(house):
    """The partings that all letters keep, and so all rows of them; however many."""
    partings = all_partings(house[0])
    for places in house[1]:
        partings = [parting for parting in partings if leads_to_parts(places, parting)]
    return partings


def is_parting(halls, value):
    """Whether a value is an ascending tuple of parts, each hall being in just one."""
    if not isinstance(value, tuple) or not all([is_lot(halls, part) for part in value]):
        return False
    return is_ascending(value) and sorted([hall for part in value for hall in part]) == list(range(halls))


def meets_each_once(parts, lot):
    """Whether a lot has just one hall in each part."""
    return all([len([hall for hall in part if hall in lot]) == 1 for part in parts])


def is_section(house, value):
    """Whether a value is a section of the group of a house."""
    if not isinstance(value, tuple) or len(value) != 2:
        return False
    halls = house[0]
    parts, lot = value
    if not is_parting(halls, parts) or not 2 <= len(parts) < halls:
        return False
    if not is_lot(halls, lot):
        return False
    # One hall in each part, and each hall in a part: so the lot has as many halls as there are parts.
    return all([meets_each_once(parts, there) for there in rows_from(house, lot)])


def parts_of_colours(numbers):
    """The parts of halls that have the same number each, ascending."""
    return tuple(sorted({
        tuple([hall for hall, number in enumerate(numbers) if number == own]) for own in numbers
    }))


def section(house):
    """A section of the group, None without any."""
    found = group_bar(house)
    if found is None:
        return None
    # Turns lead the clique to cliques, whose halls have unlike colours, and so all of them. A net
    # that is not the whole one needs fewer colours than there are halls.
    _, clique, numbers = found
    return (parts_of_colours(numbers), clique)


def shows_section(house, value):
    """Whether a value is what section may return."""
    check_turns(house)
    if value is None:
        return resets_all(house)
    return is_section(house, value)


def is_transitive(house):
    """Whether the group leads each hall to each."""
    check_turns(house)
    # Rows of turns lead back, too: if one hall is led to all, each is.
    return len(rows_from(house, (0,))) == house[0]


def is_pairwise(house):
    """Whether the group leads each two unlike halls, as a lot, to each."""
    return len(pair_lots(house)) < 2


def is_primitive(house):
    """Whether the group keeps no parting but that into single halls and that of one part."""
    check_turns(house)
    # These two are kept by any group; for one hall they are the same.
    return len(partings_kept(house)) <= 2


def kept_partings(house):
    """The ascending tuple of all partings that the group keeps."""
    check_turns(house)
    partings = partings_kept(house)
    if len(partings) > MOST_PARTINGS:
        raise TooMany(MOST_PARTINGS)
    return tuple(sorted(partings))
