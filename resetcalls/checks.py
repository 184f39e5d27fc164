"""What is wrong with an argument, and the errors that say so."""

from resetcalls.errors import BadHall, BadHouse, BadLot, BadMap, BadNet, BadNumber, BadRow, NotTurns

MOST_HALLS = 8
MOST_LETTERS = 6
MOST_CALLS = 100


def is_number(value, least, most):
    """Whether a value is an integer from least to most."""
    # Python takes True and False for integers; the package doesn't.
    if isinstance(value, bool) or not isinstance(value, int):
        return False
    return least <= value <= most


def is_hall(halls, value):
    """Whether a value is one of so many halls."""
    return is_number(value, 0, halls - 1)


def is_letter(letters, value):
    """Whether a value is one of so many letters."""
    return is_number(value, 0, letters - 1)


def is_tuple_of_halls(halls, value):
    """Whether a value is a tuple of halls, in any order, alike or not."""
    return isinstance(value, tuple) and all([is_hall(halls, hall) for hall in value])


def is_map(halls, value):
    """Whether a value is a map of so many halls."""
    return is_tuple_of_halls(halls, value) and len(value) == halls


def are_maps(halls, value):
    """Whether a value is the tuple of a house's maps."""
    if not isinstance(value, tuple) or not 1 <= len(value) <= MOST_LETTERS:
        return False
    return all([is_map(halls, places) for places in value])


def is_ascending(values):
    """Whether each value is above the one ahead."""
    return all([low < high for low, high in zip(values, values[1:])])


def is_lot(halls, value):
    """Whether a value is a lot of so many halls."""
    return is_tuple_of_halls(halls, value) and len(value) > 0 and is_ascending(value)


def is_tie(halls, value):
    """Whether a value is a tie of so many halls."""
    return is_lot(halls, value) and len(value) == 2


def is_net(halls, value):
    """Whether a value is a net of so many halls."""
    if not isinstance(value, tuple) or not all([is_tie(halls, tie) for tie in value]):
        return False
    return is_ascending(value)


def is_one_to_one(places):
    """Whether a map leads unlike halls to unlike ones."""
    return len(set(places)) == len(places)


def house_fault(value):
    """The word for what bars a value from being a house, None if nothing does."""
    if not isinstance(value, tuple) or len(value) != 2:
        return "whole"
    halls, maps = value
    if not is_number(halls, 1, MOST_HALLS):
        return "halls"
    if not are_maps(halls, maps):
        return "maps"
    return None


def check_house(value):
    """Raise BadHouse for what is no house."""
    fault = house_fault(value)
    if fault is not None:
        raise BadHouse(fault)


def check_turns(value):
    """Raise BadHouse for what is no house, NotTurns if a letter is not one to one."""
    check_house(value)
    if not all([is_one_to_one(places) for places in value[1]]):
        raise NotTurns()


def check_number_of_halls(value):
    """Raise BadNumber for what is no number of halls."""
    if not is_number(value, 1, MOST_HALLS):
        raise BadNumber()


def check_hall(halls, value):
    """Raise BadHall for what is none of so many halls."""
    if not is_hall(halls, value):
        raise BadHall()


def check_letter(letters, value):
    """Raise BadNumber for what is none of so many letters."""
    if not is_letter(letters, value):
        raise BadNumber()


def check_lot(halls, value):
    """Raise BadLot for what is no lot of so many halls."""
    if not is_lot(halls, value):
        raise BadLot()


def check_map(halls, value):
    """Raise BadMap for what is no map of so many halls."""
    if not is_map(halls, value):
        raise BadMap()


def check_net(halls, value):
    """Raise BadNet for what is no net of so many halls."""
    if not is_net(halls, value):
        raise BadNet()


def check_row(letters, value):
    """Raise BadRow for what is no row of so many letters."""
    if not isinstance(value, tuple) or len(value) > MOST_CALLS:
        raise BadRow(None)
    for index, letter in enumerate(value):
        if not is_letter(letters, letter):
            raise BadRow(index)
