"""Which of all maps have a reset with the letters of a house."""

from resetcalls.calls import is_reset_by
from resetcalls.checks import check_house, check_turns, is_one_to_one
from resetcalls.errors import TooMany

MOST_HALLS_COUNTED = 5


def check_few_halls(house):
    """Raise TooMany for a house that has too many maps to go through."""
    if house[0] > MOST_HALLS_COUNTED:
        raise TooMany(MOST_HALLS_COUNTED)


def all_maps(halls):
    """All maps of so many halls, ascending."""
    maps = [()]
    for _ in range(halls):
        maps = [places + (hall,) for places in maps for hall in range(halls)]
    return maps


def is_reset_with(house, places):
    """Whether the letters and a map together have a reset."""
    halls, maps = house
    return is_reset_by(halls, maps + (places,))


def count_resetting(house):
    """How many maps have a reset with the letters."""
    check_house(house)
    check_few_halls(house)
    return len([places for places in all_maps(house[0]) if is_reset_with(house, places)])


def resisting_maps(house):
    """The ascending tuple of all maps that aren't one to one and have no reset with the turns."""
    check_turns(house)
    check_few_halls(house)
    return tuple([
        places for places in all_maps(house[0])
        if not is_one_to_one(places) and not is_reset_with(house, places)
    ])
