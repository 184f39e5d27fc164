"""What the tests of wrong arguments share."""

import copy
import unittest

from resetcalls.errors import BadHouse, NotTurns
from tests.samples import NOT_TURNS, WRONG_HOUSES, are_turns, small_houses

# Beside letters that are no turns, what is no map of two halls, or too many maps.
NO_MAPS_OF_TWO = [((0, 0), (0, 2)), ((0, 0), None), ((0, 0), (0, 1, 2)), ((0, 0),) * 7]


class RaisingCase(unittest.TestCase):
    def raises(self, fields, error, function, *arguments):
        """Hold that a call raises just this error, with these fields and no others."""
        with self.assertRaises(error, msg=repr(arguments)) as caught:
            function(*arguments)
        self.assertIs(type(caught.exception), error)
        self.assertEqual(vars(caught.exception), fields, msg=repr(arguments))

    def leaves(self, function, *arguments):
        """Hold that a call leaves its arguments as they were, whether it raises or not."""
        before = copy.deepcopy(arguments)
        try:
            function(*arguments)
        except ValueError:
            pass
        self.assertEqual(arguments, before)

    def takes_turns_alone(self, function, *others):
        """Hold that a function of a house raises BadHouse, behind it NotTurns, and all else behind."""
        for value, part in WRONG_HOUSES + [((2, maps), "maps") for maps in NO_MAPS_OF_TWO]:
            self.raises({"part": part}, BadHouse, function, value, *others)
        for house in NOT_TURNS + [(8, (tuple(range(8)), (0,) * 8)), (6, ((0, 0, 2, 3, 4, 5),))]:
            self.raises({}, NotTurns, function, house, *others)
        for house in small_houses():
            if are_turns(house):
                function(house, *others)
            else:
                self.raises({}, NotTurns, function, house, *others)
