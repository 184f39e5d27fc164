"""Somebody lost, who calls letters (point 9)."""

import itertools
import random
import unittest

from resetcalls.calls import homing
from resetcalls.errors import BadHouse, BadLot, BadNumber, BadStep
from resetcalls.lost import Lost
from tests.cases import RaisingCase
from tests.samples import (EIGHT_AND_SIX, EIGHT_HALLS, HOUSE, HOUSES, ONE_HALL, THREE, WRONG_HOUSES, WRONG_LOTS,
                           cerny_house, lots_of)
from tests.second_way import ends, first_row, row_by_distances

# For houses of two letters.
WRONG_LETTERS = [None, True, False, -1, 2, 3, 6, 10 ** 30, -10 ** 30, "", "0", "1", (), (0,), (1,), [], [0], {},
                 {0: 1}]


class Examples(unittest.TestCase):
    def test_letters(self):
        lost = Lost((3, ((1, 2, 0), (0, 0, 2))), (0, 1, 2))
        self.assertEqual(
            [lost.hint(), lost.call(1), lost.possible, lost.row, lost.is_found, lost.undo(), lost.possible],
            [1, None, (0, 2), (1,), False, None, (0, 1, 2)])

    def test_error(self):
        with self.assertRaises(BadLot) as caught:
            Lost((2, ((0, 0),)), ())
        self.assertEqual(vars(caught.exception), {})


class LostCase(RaisingCase):
    def stands(self, lost, possible, row):
        """Hold where one is and what was called."""
        self.assertEqual(lost.possible, possible)
        self.assertIs(type(lost.possible), tuple)
        self.assertEqual(lost.row, row)
        self.assertIs(type(lost.row), tuple)
        self.assertIs(lost.is_found, len(possible) == 1)


class Calling(LostCase):
    def test_nothing_called(self):
        for lot in lots_of(3):
            self.stands(Lost(HOUSE, lot), lot, ())
        self.stands(Lost(ONE_HALL, (0,)), (0,), ())

    def test_there_and_back(self):
        lost = Lost(HOUSE, (0, 1, 2))
        steps = [(1, (0, 2)), (0, (0, 1)), (0, (1, 2)), (1, (0, 2)), (0, (0, 1)), (1, (0,)), (0, (1,)), (0, (2,))]
        for many, (letter, possible) in enumerate(steps, start=1):
            self.assertIsNone(lost.call(letter))
            self.stands(lost, possible, tuple(letter for letter, _ in steps[:many]))
        for many in reversed(range(len(steps))):
            self.assertIsNone(lost.undo())
            self.stands(lost, steps[many - 1][1] if many else (0, 1, 2), tuple(letter for letter, _ in steps[:many]))
        for _ in range(3):
            self.raises({}, BadStep, lost.undo)
            self.stands(lost, (0, 1, 2), ())
        lost.call(1)
        self.stands(lost, (0, 2), (1,))

    def test_none_to_take_back(self):
        for house in HOUSES:
            lost = Lost(house, (0,))
            self.raises({}, BadStep, lost.undo)
            self.stands(lost, (0,), ())

    def test_a_letter_that_changes_nothing_is_taken_back_too(self):
        lost = Lost(ONE_HALL, (0,))
        lost.call(0)
        lost.call(0)
        self.stands(lost, (0,), (0, 0))
        lost.undo()
        self.stands(lost, (0,), (0,))
        lost.undo()
        self.raises({}, BadStep, lost.undo)

    def test_more_letters_than_a_row_may_have_as_an_argument(self):
        lost = Lost(EIGHT_AND_SIX, (0, 3))
        for _ in range(205):
            lost.call(0)
        self.stands(lost, (0, 5), (0,) * 205)
        for _ in range(204):
            lost.undo()
        self.stands(lost, (1, 4), (0,))

    def test_two_do_not_share_what_they_called(self):
        one, other = Lost(HOUSE, (0, 1)), Lost(HOUSE, (0, 1))
        one.call(0)
        self.stands(one, (1, 2), (0,))
        self.stands(other, (0, 1), ())
        other.call(1)
        self.stands(one, (1, 2), (0,))
        self.stands(other, (0,), (1,))

    def test_what_was_read_stays_as_it_was(self):
        lost = Lost(HOUSE, (0, 1, 2))
        lost.call(1)
        row, possible = lost.row, lost.possible
        lost.call(0)
        self.assertEqual((row, possible), ((1,), (0, 2)))
        lost.undo()
        lost.undo()
        self.assertEqual((row, possible), ((1,), (0, 2)))

    def test_properties_are_no_methods(self):
        for name in ("possible", "row", "is_found"):
            self.assertIs(type(vars(Lost)[name]), property)

    def test_held_against_walks(self):
        draw = random.Random(91)
        for house in HOUSES:
            letters = len(house[1])
            for lot in [lots_of(house[0])[0], lots_of(house[0])[-1], draw.choice(lots_of(house[0]))]:
                lost, row = Lost(house, lot), ()
                for _ in range(40):
                    if row and draw.random() < 0.4:
                        lost.undo()
                        row = row[:-1]
                    else:
                        row += (draw.randrange(letters),)
                        lost.call(row[-1])
                    self.stands(lost, ends(house, lot, row), row)


class Hint(LostCase):
    def test_a_lot_that_can_be_brought_to_one_hall(self):
        lost = Lost(HOUSE, (0, 1, 2))
        for letter in (1, 0, 1):
            self.assertEqual(lost.hint(), letter)
            lost.call(letter)
        self.assertIs(lost.is_found, True)
        self.assertIsNone(lost.hint())

    def test_a_hint_of_the_letter_nought(self):
        hint = Lost(HOUSE, (0, 2)).hint()
        self.assertEqual(hint, 0)
        self.assertIs(type(hint), int)

    def test_a_lot_that_cannot(self):
        self.assertIsNone(Lost(THREE, (0, 1, 2)).hint())
        self.assertIsNone(Lost(THREE, (1, 2)).hint())
        self.assertEqual(Lost(THREE, (0, 1)).hint(), 1)
        self.assertIsNone(Lost(EIGHT_HALLS, tuple(range(8))).hint())

    def test_one_hall_already(self):
        for house in HOUSES:
            for hall in range(house[0]):
                self.assertIsNone(Lost(house, (hall,)).hint())

    def test_it_is_that_of_the_lot_now(self):
        lost = Lost(THREE, (0, 1))
        lost.call(1)
        self.assertIsNone(lost.hint())
        lost.undo()
        self.assertEqual(lost.hint(), 1)
        lost.call(0)
        self.assertEqual(lost.hint(), 1)

    def test_it_changes_nothing(self):
        lost = Lost(HOUSE, (0, 1, 2))
        lost.call(0)
        self.assertEqual([lost.hint(), lost.hint()], [1, 1])
        self.stands(lost, (0, 1, 2), (0,))

    def test_following_hints(self):
        for halls in range(2, 7):
            house = cerny_house(halls)
            lost = Lost(house, tuple(range(halls)))
            while not lost.is_found:
                lost.call(lost.hint())
            self.assertEqual(len(lost.row), (halls - 1) ** 2)
            self.assertEqual(lost.row, homing(house, tuple(range(halls))))

    def test_held_against_rows_in_order(self):
        for house in (HOUSE, THREE, cerny_house(3), (4, ((1, 2, 3, 0), (0, 1, 2, 0)))):
            for lot, letter in itertools.product(lots_of(house[0]), [None, 0, 1]):
                lost = Lost(house, lot)
                if letter is not None:
                    lost.call(letter)
                row = row_by_distances(house, lost.possible, 1)
                if row is not None and len(row) < 6:
                    self.assertEqual(row, first_row(house, lost.possible, 1, 5))
                self.assertEqual(lost.hint(), row[0] if row else None)


class Errors(LostCase):
    def test_wrong_houses(self):
        for value, part in WRONG_HOUSES:
            with self.subTest(value=value):
                self.raises({"part": part}, BadHouse, Lost, value, (0,))

    def test_wrong_lots(self):
        for value in WRONG_LOTS:
            with self.subTest(value=value):
                self.raises({}, BadLot, Lost, HOUSE, value)
        self.raises({}, BadLot, Lost, ONE_HALL, (1,))
        self.raises({}, BadLot, Lost, EIGHT_HALLS, (7, 8))

    def test_the_leftmost_of_several(self):
        for (value, part), lot in itertools.product(WRONG_HOUSES, WRONG_LOTS):
            self.raises({"part": part}, BadHouse, Lost, value, lot)

    def test_wrong_letters(self):
        for letter in WRONG_LETTERS:
            lost = Lost(HOUSE, (0, 1, 2))
            with self.subTest(letter=letter):
                self.raises({}, BadNumber, lost.call, letter)
                self.stands(lost, (0, 1, 2), ())
                lost.call(1)
                self.raises({}, BadNumber, lost.call, letter)
                self.stands(lost, (0, 2), (1,))

    def test_letters_of_the_house_alone(self):
        one = Lost(ONE_HALL, (0,))
        self.raises({}, BadNumber, one.call, 1)
        six = Lost(EIGHT_AND_SIX, (0,))
        six.call(5)
        self.raises({}, BadNumber, six.call, 6)

    def test_arguments_are_not_modified(self):
        for house, lot in [(HOUSE, [0, 1]), ([3, []], (0,)), (HOUSE, (0, 1, 2)), (HOUSE, {0: 1})]:
            self.leaves(Lost, house, lot)
        self.leaves(Lost(HOUSE, (0, 1)).call, [0])


if __name__ == "__main__":
    unittest.main()
