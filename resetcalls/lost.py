"""Somebody lost, who calls letters to be in just one hall."""

from resetcalls.calls import homing
from resetcalls.checks import check_house, check_letter, check_lot
from resetcalls.errors import BadStep
from resetcalls.houses import image


class Lost:
    """Somebody who may be anywhere in a lot."""

    def __init__(self, house, lot):
        check_house(house)
        check_lot(house[0], lot)
        self._house = house
        self._letters = []
        # The lot ahead of all letters, then the one behind each: undo goes back to the one ahead.
        self._lots = [lot]

    @property
    def possible(self):
        """The lot where one may be now."""
        return self._lots[-1]

    @property
    def row(self):
        """The tuple of the letters called."""
        return tuple(self._letters)

    @property
    def is_found(self):
        """Whether the lot is one hall."""
        return len(self._lots[-1]) == 1

    def call(self, letter):
        """Call a letter."""
        maps = self._house[1]
        check_letter(len(maps), letter)
        self._letters.append(letter)
        self._lots.append(image(maps[letter], self._lots[-1]))

    def undo(self):
        """Take the last letter back."""
        if self._letters == []:
            raise BadStep()
        self._letters.pop()
        self._lots.pop()

    def hint(self):
        """The first letter of the row that leads to one hall, None without such a letter."""
        row = homing(self._house, self._lots[-1])
        if row is None or row == ():
            return None
        return row[0]
