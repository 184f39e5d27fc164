"""Resets and other rows that bring many halls to few (point 3)."""

import itertools
import unittest

from resetcalls.calls import fewest_row, has_reset, homing, lots, meeting, rank, reset, resets_to
from resetcalls.errors import BadHall, BadHouse, BadLot
from tests.cases import RaisingCase
from tests.samples import (EIGHT_AND_SIX, EIGHT_HALLS, HOUSE, HOUSES, ONE_HALL, THREE, WRONG_HALLS, WRONG_HOUSES,
                           WRONG_LOTS, cerny_house, drawn_houses, lots_of, small_houses)
from tests.second_way import ends, first_row, images, lots_by_rows, maps_by_rows, row_by_distances

# No house of three halls needs a longer row, whatever is to be reached.
MOST_OF_THREE = 8

OF_A_HOUSE = (reset, has_reset, resets_to, lots, rank, fewest_row)


class Examples(unittest.TestCase):
    def test_with_a_reset(self):
        house = (3, ((1, 2, 0), (0, 0, 2)))
        self.assertEqual(reset(house), (1, 0, 1))
        self.assertEqual(resets_to(house), (0, 1, 2))
        self.assertEqual(rank(house), 1)
        self.assertEqual(meeting(house, 0, 2), (0, 1))
        self.assertEqual(homing(house, (0, 1)), (1,))
        self.assertEqual(lots(house)[:2], ((0,), (0, 1)))

    def test_without_one(self):
        three = (3, ((1, 0, 2), (0, 0, 2)))
        self.assertIsNone(reset(three))
        self.assertEqual(rank(three), 2)
        self.assertEqual(fewest_row(three), (1,))


class Edges(unittest.TestCase):
    def test_one_hall(self):
        for house in (ONE_HALL, (1, ((0,),) * 6)):
            self.assertEqual(reset(house), ())
            self.assertIs(has_reset(house), True)
            self.assertEqual(resets_to(house), (0,))
            self.assertEqual(lots(house), ((0,),))
            self.assertEqual(rank(house), 1)
            self.assertEqual(fewest_row(house), ())
            self.assertEqual(homing(house, (0,)), ())
            self.assertEqual(meeting(house, 0, 0), ())

    def test_one_letter_that_leads_nowhere(self):
        house = EIGHT_HALLS
        self.assertIsNone(reset(house))
        self.assertIs(has_reset(house), False)
        self.assertEqual(resets_to(house), ())
        self.assertEqual(lots(house), (tuple(range(8)),))
        self.assertEqual(rank(house), 8)
        self.assertEqual(fewest_row(house), ())
        self.assertIsNone(homing(house, (0, 7)))
        self.assertIsNone(homing(house, tuple(range(8))))
        self.assertIsNone(meeting(house, 7, 0))

    def test_one_letter_that_gathers_all(self):
        house = (8, ((0, 0, 1, 2, 3, 4, 5, 6),))
        self.assertEqual(reset(house), (0,) * 7)
        self.assertEqual(resets_to(house), (0,))
        self.assertEqual(lots(house), tuple(tuple(range(many)) for many in range(1, 9)))
        self.assertEqual(meeting(house, 7, 5), (0,) * 7)
        self.assertEqual(meeting(house, 1, 2), (0,) * 2)

    def test_a_lot_of_one_hall_and_a_hall_with_itself(self):
        for house in HOUSES:
            for hall in range(house[0]):
                self.assertEqual(homing(house, (hall,)), ())
                self.assertEqual(meeting(house, hall, hall), ())

    def test_a_lot_of_all(self):
        for house in HOUSES:
            self.assertEqual(homing(house, tuple(range(house[0]))), reset(house))

    def test_eight_halls_and_six_letters(self):
        self.assertEqual(rank(EIGHT_AND_SIX), 1)
        self.assertEqual(resets_to(EIGHT_AND_SIX), tuple(range(8)))
        self.assertEqual(len(lots(EIGHT_AND_SIX)), 255)
        self.assertEqual(len(ends(EIGHT_AND_SIX, tuple(range(8)), reset(EIGHT_AND_SIX))), 1)

    def test_the_known_longest_reset_of_eight_halls(self):
        self.assertEqual(reset(cerny_house(8)), (1,) + ((0,) * 7 + (1,)) * 6)
        self.assertEqual(resets_to(cerny_house(8)), tuple(range(8)))

    def test_the_shorter_comes_before_the_lesser(self):
        house = (3, ((0, 0, 1), (2, 2, 2)))
        self.assertEqual(reset(house), (1,))
        self.assertEqual(meeting(house, 0, 2), (1,))
        self.assertEqual(homing(house, (0, 1)), (0,))
        self.assertEqual(homing(house, (0, 1, 2)), (1,))

    def test_of_equally_short_ones_the_least(self):
        house = (3, ((0, 1, 2), (1, 1, 1), (0, 0, 0)))
        self.assertEqual(reset(house), (1,))
        self.assertEqual(resets_to(house), (0, 1))
        self.assertEqual(fewest_row(house), (1,))

    def test_fewest_row_is_not_just_the_first_to_fewer(self):
        house = (4, ((0, 0, 2, 3), (0, 1, 2, 2)))
        self.assertEqual((rank(house), fewest_row(house)), (2, (0, 1)))


class SecondWay(unittest.TestCase):
    def test_all_small_houses(self):
        for house in small_houses():
            with self.subTest(house=house):
                self.hold(house, MOST_OF_THREE)

    def test_houses_of_four_and_five_halls(self):
        houses = drawn_houses(25, 4, 2, 11) + drawn_houses(12, 4, 3, 12) + drawn_houses(8, 5, 2, 13)
        houses += [cerny_house(4), THREE, (4, ((1, 0, 3, 2), (2, 3, 0, 1))), (4, ((1, 0, 3, 2), (0, 0, 2, 2)))]
        for house in houses:
            with self.subTest(house=house):
                self.hold(house, 10)

    def test_houses_of_eight_halls(self):
        houses = drawn_houses(3, 8, 6, 14) + drawn_houses(4, 8, 1, 15) + drawn_houses(4, 8, 2, 16)
        for house in [EIGHT_AND_SIX, EIGHT_HALLS, cerny_house(8), *houses]:
            with self.subTest(house=house):
                self.hold_by_distances(house)

    def hold(self, house, most):
        """Hold every answer for a house against rows tried in order, and all maps that they make."""
        maps = maps_by_rows(house)
        whole = tuple(range(house[0]))
        reached = images(maps, whole)
        self.assertEqual(lots(house), tuple(sorted(reached)))
        self.assertEqual(resets_to(house), tuple(hall for hall in whole if (hall,) in reached))
        self.assertEqual(rank(house), min(map(len, reached)))
        self.assertIs(has_reset(house), rank(house) == 1)
        self.assertEqual(fewest_row(house), first_row(house, whole, rank(house), most))
        self.assertEqual(reset(house), self.row_to_one(house, maps, whole, most))
        for lot in lots_of(house[0]):
            self.assertEqual(homing(house, lot), self.row_to_one(house, maps, lot, most))
        for one, other in itertools.product(whole, whole):
            expected = self.row_to_one(house, maps, tuple(sorted({one, other})), most)
            self.assertEqual(meeting(house, one, other), expected)

    def row_to_one(self, house, maps, lot, most):
        if min(map(len, images(maps, lot))) > 1:
            return None
        row = first_row(house, lot, 1, most)
        self.assertIsNotNone(row, msg="the test tries too few rows")
        return row

    def hold_by_distances(self, house):
        """Hold answers for a house with too many rows to try against lots and distances."""
        reached = lots_by_rows(house)
        whole = tuple(range(house[0]))
        self.assertEqual(lots(house), tuple(sorted(reached)))
        self.assertEqual(resets_to(house), tuple(hall for hall in whole if (hall,) in reached))
        self.assertEqual(rank(house), min(map(len, reached)))
        self.assertEqual(fewest_row(house), row_by_distances(house, whole, rank(house)))
        self.assertEqual(reset(house), row_by_distances(house, whole, 1))
        for lot in ((0, 7), (1, 2, 4), (0, 3, 5, 6), (1, 2, 3, 4, 5, 6, 7)):
            self.assertEqual(homing(house, lot), row_by_distances(house, lot, 1))
        self.assertEqual(meeting(house, 6, 3), row_by_distances(house, (3, 6), 1))

    def test_the_bound_for_shortest_resets(self):
        for house in HOUSES + small_houses() + [cerny_house(halls) for halls in range(2, 9)]:
            halls, row = house[0], reset(house)
            if row is not None:
                self.assertLessEqual(len(row), (halls * halls * halls - halls) // 6)
            meet = [meeting(house, one, other) for one in range(halls) for other in range(halls)]
            self.assertEqual(row is not None, None not in meet)


class Results(unittest.TestCase):
    def test_kinds(self):
        for house in HOUSES:
            self.assertIs(type(has_reset(house)), bool)
            self.assertIs(type(rank(house)), int)
            for row in (fewest_row(house), reset(house) or (), homing(house, (0,)), resets_to(house)):
                self.assertIs(type(row), tuple)
                self.assertLessEqual({type(letter) for letter in row}, {int})
            self.assertIs(type(lots(house)), tuple)
            self.assertEqual({type(lot) for lot in lots(house)}, {tuple})

    def test_equal_arguments_have_equal_answers(self):
        for house in HOUSES:
            again = (house[0], tuple(tuple(list(places)) for places in house[1]))
            for function in OF_A_HOUSE:
                self.assertEqual(function(house), function(again))


class Errors(RaisingCase):
    def test_wrong_houses(self):
        for value, part in WRONG_HOUSES:
            with self.subTest(value=value):
                for function in OF_A_HOUSE:
                    self.raises({"part": part}, BadHouse, function, value)
                self.raises({"part": part}, BadHouse, homing, value, (0,))
                self.raises({"part": part}, BadHouse, meeting, value, 0, 0)

    def test_wrong_lots(self):
        for value in WRONG_LOTS:
            with self.subTest(value=value):
                self.raises({}, BadLot, homing, HOUSE, value)
        self.raises({}, BadLot, homing, ONE_HALL, (1,))
        self.raises({}, BadLot, homing, EIGHT_HALLS, (7, 8))

    def test_wrong_halls(self):
        for value in WRONG_HALLS:
            with self.subTest(value=value):
                self.raises({}, BadHall, meeting, HOUSE, value, 0)
                self.raises({}, BadHall, meeting, HOUSE, 0, value)
                self.raises({}, BadHall, meeting, HOUSE, value, value)
        self.raises({}, BadHall, meeting, ONE_HALL, 0, 1)
        self.raises({}, BadHall, meeting, ONE_HALL, 1, 1)
        self.raises({}, BadHall, meeting, EIGHT_HALLS, 8, 7)

    def test_the_leftmost_of_several(self):
        for value, part in WRONG_HOUSES:
            for lot in WRONG_LOTS:
                self.raises({"part": part}, BadHouse, homing, value, lot)
            for hall in WRONG_HALLS:
                self.raises({"part": part}, BadHouse, meeting, value, hall, hall)
                self.raises({"part": part}, BadHouse, meeting, value, 0, hall)

    def test_arguments_are_not_modified(self):
        for house, lot, hall in [([3, [[1, 2, 0]]], [1, 0], [0]), (HOUSE, [1, 0], {0: [1]}), (HOUSE, (0, 2), 2)]:
            for function in OF_A_HOUSE:
                self.leaves(function, house)
            self.leaves(homing, house, lot)
            self.leaves(meeting, house, 2, hall)


if __name__ == "__main__":
    unittest.main()
