"""Rows that bring many halls to few, the least of the shortest ones."""

from resetcalls.checks import check_hall, check_house, check_lot
from resetcalls.houses import image


def rows_from(house, lot):
    """The least of the shortest rows to each lot that rows lead a lot to.

    The dict has the rows in their order: the shorter first, and of equally
    long ones the lesser. Each lot is passed on letter by letter in the order
    in which it was reached, so the first row to a lot is the one looked for.
    """
    maps = house[1]
    rows = {lot: ()}
    reached = [lot]
    at = 0
    while at < len(reached):
        here = reached[at]
        at += 1
        for letter, places in enumerate(maps):
            there = image(places, here)
            if there not in rows:
                rows[there] = rows[here] + (letter,)
                reached.append(there)
    return rows


def rows_from_all(house):
    """The rows of rows_from for the lot of all halls."""
    return rows_from(house, tuple(range(house[0])))


def first_row_to(rows, many):
    """The first row of rows_from to a lot of so many halls, None without any."""
    for lot, row in rows.items():
        if len(lot) == many:
            return row
    return None


def fewest(rows):
    """The number of halls of the smallest lot of rows_from."""
    return min([len(lot) for lot in rows])


def is_reset_by(halls, maps):
    """Whether rows of maps, of however many letters, lead all halls to one."""
    return first_row_to(rows_from_all((halls, maps)), 1) is not None


def reset(house):
    """The least of the shortest rows that lead all halls to one, or None."""
    check_house(house)
    return first_row_to(rows_from_all(house), 1)


def has_reset(house):
    """Whether there is a row that leads all halls to one."""
    return reset(house) is not None


def resets_to(house):
    """The ascending tuple of the halls to which some row leads all."""
    return tuple([lot[0] for lot in lots(house) if len(lot) == 1])


def lots(house):
    """The ascending tuple of all lots to which rows lead all halls."""
    check_house(house)
    return tuple(sorted(rows_from_all(house)))


def rank(house):
    """The number of halls of the smallest lot to which rows lead all halls."""
    check_house(house)
    return fewest(rows_from_all(house))


def fewest_row(house):
    """The least of the shortest rows that lead all halls to rank(house) halls."""
    check_house(house)
    rows = rows_from_all(house)
    return first_row_to(rows, fewest(rows))


def homing(house, lot):
    """The least of the shortest rows that lead a lot to one hall, or None."""
    check_house(house)
    check_lot(house[0], lot)
    return first_row_to(rows_from(house, lot), 1)


def meeting(house, one, other):
    """The least of the shortest rows that lead two halls to one, or None."""
    check_house(house)
    halls = house[0]
    check_hall(halls, one)
    check_hall(halls, other)
    return first_row_to(rows_from(house, tuple(sorted({one, other}))), 1)
