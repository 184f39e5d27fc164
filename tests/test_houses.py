"""Houses, lots and rows (point 2), and what point 1 says of every function."""

import itertools
import unittest

from resetcalls.errors import BadHouse, BadLot, BadRow
from resetcalls.houses import is_house, led, map_of
from tests.cases import RaisingCase
from tests.samples import (EIGHT_AND_SIX, EIGHT_HALLS, HOUSE, HOUSES, ONE_HALL, WRONG_HOUSES, WRONG_LOTS,
                           WRONG_ROWS, drawn_houses, lots_of, small_houses)
from tests.second_way import ends, rows_in_order, walked


class Examples(unittest.TestCase):
    def test_values(self):
        house = (3, ((1, 2, 0), (0, 0, 2)))
        self.assertEqual(led(house, (0, 1, 2), (1, 0)), (0, 1))
        self.assertEqual(map_of(house, (1, 0)), (1, 1, 0))
        self.assertIs(is_house((2, ((0, 2),))), False)

    def test_error(self):
        with self.assertRaises(BadLot) as caught:
            led((2, ((0, 0),)), (1, 0), ())
        self.assertEqual(vars(caught.exception), {})


class IsHouse(unittest.TestCase):
    def test_houses(self):
        for house in HOUSES + small_houses() + drawn_houses(20, 8, 6, 1):
            with self.subTest(house=house):
                self.assertIs(is_house(house), True)

    def test_each_number_of_halls_and_of_letters(self):
        for halls, letters in itertools.product(range(11), range(9)):
            house = (halls, (tuple(range(halls)),) * letters)
            with self.subTest(house=house):
                self.assertIs(is_house(house), 1 <= halls <= 8 and 1 <= letters <= 6)

    def test_others(self):
        for value, part in WRONG_HOUSES:
            with self.subTest(value=value, part=part):
                self.assertIs(is_house(value), False)


class Led(unittest.TestCase):
    def test_letter_behind_letter(self):
        self.assertEqual(led(HOUSE, (0, 2), (0,)), (0, 1))
        self.assertEqual(led(HOUSE, (0, 1, 2), (0, 1)), (0, 2))
        self.assertEqual(led(HOUSE, (0, 1, 2), (1, 0, 1)), (0,))
        self.assertEqual(led(HOUSE, (2,), (0, 0)), (1,))

    def test_void_row_leaves_the_lot(self):
        for house in HOUSES:
            for lot in lots_of(house[0]):
                self.assertEqual(led(house, lot, ()), lot)

    def test_edges(self):
        self.assertEqual(led(ONE_HALL, (0,), (0,) * 100), (0,))
        self.assertEqual(led(EIGHT_HALLS, tuple(range(8)), (0,) * 100), tuple(range(8)))
        self.assertEqual(led(EIGHT_AND_SIX, tuple(range(8)), (2, 5)), (0, 2, 4, 5, 6, 7))
        self.assertEqual(led(EIGHT_AND_SIX, (7,), (3,)), (0,))
        self.assertEqual(led(HOUSE, (0,), (0,) * 100), (1,))

    def test_held_against_each_hall_walked_alone(self):
        for house in [HOUSE, *drawn_houses(5, 4, 2, 2), *drawn_houses(3, 5, 3, 3)]:
            for lot, row in itertools.product(lots_of(house[0]), rows_in_order(house, 4)):
                self.assertEqual(led(house, lot, row), ends(house, lot, row))

    def test_answer_is_a_tuple_of_integers(self):
        lot = led(HOUSE, (0, 1, 2), (0, 1, 1))
        self.assertIs(type(lot), tuple)
        self.assertEqual({type(hall) for hall in lot}, {int})


class MapOf(unittest.TestCase):
    def test_letter_behind_letter(self):
        self.assertEqual(map_of(HOUSE, (0,)), (1, 2, 0))
        self.assertEqual(map_of(HOUSE, (0, 1)), (0, 2, 0))
        self.assertEqual(map_of(HOUSE, (1, 0, 1)), (0, 0, 0))

    def test_void_row(self):
        for house in HOUSES:
            self.assertEqual(map_of(house, ()), tuple(range(house[0])))

    def test_edges(self):
        self.assertEqual(map_of(ONE_HALL, (0,) * 100), (0,))
        self.assertEqual(map_of(HOUSE, (0,) * 100), (1, 2, 0))
        self.assertEqual(map_of(EIGHT_AND_SIX, (5,)), (0, 1, 2, 2, 4, 5, 6, 7))
        self.assertEqual(map_of(EIGHT_AND_SIX, (0,) * 99), (3, 4, 5, 6, 7, 0, 1, 2))

    def test_held_against_each_hall_walked_alone(self):
        for house in [HOUSE, *drawn_houses(5, 4, 2, 4), *drawn_houses(3, 8, 6, 5)]:
            for row in rows_in_order(house, 3):
                self.assertEqual(map_of(house, row), tuple(walked(house, hall, row) for hall in range(house[0])))


class Errors(RaisingCase):
    def test_wrong_houses(self):
        for value, part in WRONG_HOUSES:
            with self.subTest(value=value):
                self.raises({"part": part}, BadHouse, led, value, (0,), ())
                self.raises({"part": part}, BadHouse, map_of, value, ())

    def test_wrong_lots(self):
        for value in WRONG_LOTS:
            with self.subTest(value=value):
                self.raises({}, BadLot, led, HOUSE, value, ())

    def test_lots_of_a_greater_house(self):
        self.raises({}, BadLot, led, ONE_HALL, (0, 1), ())
        self.raises({}, BadLot, led, EIGHT_HALLS, (0, 8), ())

    def test_wrong_rows(self):
        for value, index in WRONG_ROWS:
            with self.subTest(value=value):
                self.raises({"index": index}, BadRow, led, HOUSE, (0, 1), value)
                self.raises({"index": index}, BadRow, map_of, HOUSE, value)

    def test_letters_of_a_greater_house(self):
        self.raises({"index": 0}, BadRow, map_of, ONE_HALL, (1,))
        self.raises({"index": 2}, BadRow, map_of, EIGHT_AND_SIX, (5, 0, 6))

    def test_the_leftmost_of_several(self):
        for value, part in WRONG_HOUSES:
            self.raises({"part": part}, BadHouse, led, value, (), None)
            self.raises({"part": part}, BadHouse, led, value, (0,), [0])
            self.raises({"part": part}, BadHouse, led, value, None, ())
            self.raises({"part": part}, BadHouse, map_of, value, (9,))
        for lot, (row, _) in itertools.product(WRONG_LOTS, WRONG_ROWS):
            self.raises({}, BadLot, led, HOUSE, lot, row)

    def test_arguments_are_not_modified(self):
        for house, lot, row in [([3, [[1, 2, 0]]], [1, 0], [0, {0: 1}]), (HOUSE, [1, 0], [1, 0]),
                                (HOUSE, (0, 1), [[1], {1: [0]}]), (HOUSE, (0, 1, 2), (1, 0))]:
            self.leaves(is_house, house)
            self.leaves(led, house, lot, row)
            self.leaves(map_of, house, row)


if __name__ == "__main__":
    unittest.main()
