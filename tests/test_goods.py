"""How many maps have a reset with the letters, and which have none (point 7)."""

import unittest

from resetcalls.errors import BadHouse, NotTurns, TooMany
from resetcalls.goods import count_resetting, resisting_maps
from resetcalls.groups import resets_all, resets_with, shows_resisting
from tests.cases import RaisingCase
from tests.samples import (EIGHT_AND_SIX, EIGHT_HALLS, FIVE_RING, FOUR_RING, GROUPS, HOUSE, ONE_HALL, PAIRWISE,
                           THREE, WITH_4096_NETS, WITH_MORE_NETS, WRONG_HOUSES, are_turns, drawn_houses, maps_of,
                           small_groups, small_houses)
from tests.second_way import each_two_meet

SMALL_GROUPS = [house for house in GROUPS if house[0] <= 4] + small_groups()
# Without a reset, and with letters that are no turns.
FIVE_HALLS = (5, ((0, 0, 2, 3, 4), (1, 0, 3, 4, 2)))
SIX_HALLS = (6, ((0, 0, 2, 3, 4, 5),))


def with_reset(house):
    """All maps that have a reset with the letters: with which each two halls meet."""
    return [places for places in maps_of(house[0]) if each_two_meet(house[0], house[1] + (places,))]


class Examples(unittest.TestCase):
    def test_numbers(self):
        self.assertEqual(count_resetting((3, ((0, 1, 2),))), 9)
        self.assertEqual(count_resetting((2, ((1, 0),))), 2)
        self.assertEqual(len(resisting_maps((3, ((0, 1, 2),)))), 12)

    def test_error(self):
        with self.assertRaises(TooMany) as caught:
            count_resetting((6, ((0, 1, 2, 3, 4, 5),)))
        self.assertEqual(vars(caught.exception), {"most": 5})


class CountResetting(unittest.TestCase):
    def test_one_hall(self):
        self.assertEqual(count_resetting(ONE_HALL), 1)
        self.assertEqual(count_resetting((1, ((0,),) * 6)), 1)

    def test_letters_that_have_a_reset_without_more(self):
        self.assertEqual(count_resetting(HOUSE), 27)
        self.assertEqual(count_resetting((2, ((0, 0),))), 4)
        self.assertEqual(count_resetting((5, ((0, 0, 1, 2, 3),))), 3125)
        self.assertEqual(count_resetting((5, ((1, 2, 3, 4, 0),) * 5 + ((0, 0, 2, 3, 4),))), 3125)

    def test_letters_that_leave_all_as_it_is(self):
        # A map with a reset of its own is a tree with a root: n ** (n - 1), as is known.
        for halls in range(1, 6):
            self.assertEqual(count_resetting((halls, (tuple(range(halls)),))), halls ** (halls - 1))

    def test_turns_that_reset_with_each_map_that_is_not_one_to_one(self):
        for house in [house for house in PAIRWISE if house[0] <= 5] + [FIVE_RING]:
            turns = {2: 2, 3: 6, 4: 24, 5: 120}[house[0]]
            self.assertEqual(count_resetting(house), house[0] ** house[0] - turns)

    def test_letters_that_are_no_turns(self):
        self.assertEqual(count_resetting(THREE), len(with_reset(THREE)))
        self.assertEqual(count_resetting(FIVE_HALLS), len(with_reset(FIVE_HALLS)))

    def test_held_against_halls_that_meet(self):
        houses = small_houses() + [(4, (places,)) for places in maps_of(4)[::7]] + drawn_houses(10, 4, 2, 71)
        for house in houses:
            with self.subTest(house=house):
                self.assertEqual(count_resetting(house), len(with_reset(house)))


class ResistingMaps(unittest.TestCase):
    def test_known_ones(self):
        self.assertEqual(resisting_maps(ONE_HALL), ())
        self.assertEqual(resisting_maps((2, ((0, 1),))), ())
        self.assertEqual(resisting_maps((3, ((0, 1, 2),))), (
            (0, 0, 2), (0, 1, 0), (0, 1, 1), (0, 2, 2), (1, 0, 0), (1, 0, 1), (1, 1, 2), (1, 2, 1), (2, 0, 0),
            (2, 1, 2), (2, 2, 0), (2, 2, 1)))
        self.assertEqual(resisting_maps((3, ((1, 0, 2),))), (
            (0, 0, 2), (0, 1, 0), (0, 1, 1), (1, 0, 0), (1, 0, 1), (1, 1, 2), (2, 2, 0), (2, 2, 1)))

    def test_groups_that_reset_with_each(self):
        for house in [house for house in PAIRWISE if house[0] <= 5] + [FIVE_RING]:
            self.assertEqual(resisting_maps(house), ())

    def test_five_halls(self):
        for house in [(5, ((0, 1, 2, 3, 4),)), (5, ((1, 2, 0, 4, 3),))]:
            resist = resisting_maps(house)
            self.assertEqual(list(resist), sorted(set(resist)))
            self.assertEqual(len(resist), 3125 - 120 - count_resetting(house))
            for places in resist[::50]:
                self.assertIs(resets_with(house, places), False)
        self.assertEqual(len(resisting_maps((5, ((0, 1, 2, 3, 4),)))), 3125 - 120 - 625)

    def test_held_against_halls_that_meet(self):
        for house in SMALL_GROUPS:
            reset = with_reset(house)
            with self.subTest(house=house):
                self.assertEqual(resisting_maps(house), tuple(
                    places for places in maps_of(house[0]) if len(set(places)) < house[0] and places not in reset))

    def test_held_against_what_groups_tell(self):
        for house in SMALL_GROUPS:
            resist = resisting_maps(house)
            self.assertIs(resets_all(house), resist == ())
            for places in resist:
                self.assertIs(shows_resisting(house, places), True)


class TooManyHalls(RaisingCase):
    def test_more_than_five(self):
        for house in [*WITH_MORE_NETS, *WITH_4096_NETS, (6, ((1, 2, 3, 4, 5, 0),)), EIGHT_HALLS]:
            self.raises({"most": 5}, TooMany, count_resetting, house)
            self.raises({"most": 5}, TooMany, resisting_maps, house)
        for house in (SIX_HALLS, EIGHT_AND_SIX, (7, ((0,) * 7,))):
            self.raises({"most": 5}, TooMany, count_resetting, house)

    def test_just_five(self):
        self.assertEqual(count_resetting((5, ((0, 0, 0, 0, 0),) * 6)), 3125)
        self.assertEqual(len(resisting_maps((5, ((0, 1, 2, 3, 4),) * 6))), 2380)


class Errors(RaisingCase):
    def test_wrong_houses(self):
        for value, part in WRONG_HOUSES + [((6, ((0,) * 5,)), "maps"), ((6, ((0,) * 6, (0,) * 5)), "maps")]:
            with self.subTest(value=value):
                self.raises({"part": part}, BadHouse, count_resetting, value)
                self.raises({"part": part}, BadHouse, resisting_maps, value)

    def test_houses_that_are_not_of_turns(self):
        self.takes_turns_alone(resisting_maps)
        for house in (FIVE_HALLS, SIX_HALLS):
            self.raises({}, NotTurns, resisting_maps, house)

    def test_equal_answers_for_equal_arguments(self):
        for house in (FOUR_RING, (4, ((0, 1, 2, 3),)), THREE):
            again = (house[0], tuple(tuple(list(places)) for places in house[1]))
            self.assertEqual(count_resetting(house), count_resetting(again))
            if are_turns(house):
                self.assertEqual(resisting_maps(house), resisting_maps(again))

    def test_arguments_are_not_modified(self):
        for house in ([3, [[0, 1, 2]]], (3, ([0, 1, 2],)), FOUR_RING, THREE, SIX_HALLS, {3: [0]}):
            self.leaves(count_resetting, house)
            self.leaves(resisting_maps, house)


if __name__ == "__main__":
    unittest.main()
