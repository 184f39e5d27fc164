"""Partings that a group keeps, and its sections (points 6 and 8)."""

import itertools
import unittest

from resetcalls.errors import TooMany
from resetcalls.groups import barring_nets, pair_lots, resets_all
from resetcalls.partings import is_pairwise, is_primitive, is_transitive, kept_partings, section, shows_section
from tests.cases import RaisingCase
from tests.samples import (EIGHT_HALLS, FIVE_RING, FOUR_RING, GROUPS, NO_VALUES, ONE_HALL, PAIRWISE,
                           WITH_112_PARTINGS, WITH_4096_NETS, WITH_97_PARTINGS, WITH_MORE_NETS, WRONG_LOTS, lots_of,
                           small_groups, whole)
from tests.second_way import maps_by_rows, partings_kept_by, sections_of

OF_TURNS = (section, is_transitive, is_pairwise, is_primitive, kept_partings)
NEVER_4096 = OF_TURNS[1:]

# Of FOUR_RING, with these parts and this lot.
PARTS, LOT = ((0, 2), (1, 3)), (0, 1)
SIX_PARTS = ((0, 3), (1, 4), (2, 5))
SIX_RING = (6, ((1, 2, 3, 4, 5, 0),))

# In place of the parts of a section of FOUR_RING.
WRONG_PARTS = [
    None, True, 0, "0213", [], list(PARTS), {}, {(0, 2): 0, (1, 3): 1}, (), ((0, 1, 2, 3),), ((0,), (1,), (2,), (3,)),
    ((), (0, 1, 2, 3)), ((), (0, 2), (1, 3)), ((0, 2), (), (1, 3)), ((2, 0), (1, 3)), ((0, 2), (3, 1)),
    ((0, 0, 2), (1, 3)), ((0, 2), (1, 2, 3)), ((0, 1, 2), (1, 3)), ((0, 2), (1,)), ((0,), (1, 3)), ((0, 2), (0, 2)),
    ((0, 2), (1, 3), (1, 3)), ((1, 3), (0, 2)), ((0, 2), (1, 3, 4)), ((-1, 0, 2), (1, 3)), ((0, 2), (True, 3)),
    ((False, 2), (1, 3)), ((0, 2), [1, 3]), ([0, 2], (1, 3)), ((0, 2), "13"), ((0, 2), None), ((0, 2), 1),
    ((0, 2), (1, 3.0)), ((0, 2), ((1, 3),)), ((0, 2), (1, None)), ((0, 2), (1, "3")), ((0, 2), (1, [3])),
    ((0, 1), (2, 3)), ((0, 3), (1, 2)), ((0, 1, 2), (3,)), ((0, 2), (1,), (3,)), (PARTS,), PARTS + ((),),
]
WRONG_SECTION_LOTS = WRONG_LOTS + [
    (0,), (3,), (0, 1, 2), (0, 1, 2, 3), (1, 0), (0, 0), (0, 2), (1, 3), (0, 4), (-1, 1), (0, True), (False, 1),
    [0, 1], (0, 1.0), ((0, 1),), ((0,), (1,)),
]


class Examples(unittest.TestCase):
    def test_partings(self):
        four = (4, ((1, 2, 3, 0),))
        self.assertIs(is_transitive(four), True)
        self.assertIs(is_pairwise(four), False)
        self.assertIs(is_primitive(four), False)
        self.assertEqual(kept_partings(four), (((0,), (1,), (2,), (3,)), ((0, 1, 2, 3),), ((0, 2), (1, 3))))

    def test_sections(self):
        four = (4, ((1, 2, 3, 0),))
        self.assertIs(shows_section(four, section(four)), True)
        self.assertIs(shows_section(four, (((0, 2), (1, 3)), (0, 1))), True)
        self.assertIsNone(section((5, ((1, 2, 3, 4, 0),))))


class WhatIsLedToWhat(unittest.TestCase):
    def test_one_hall_and_two(self):
        self.tells(ONE_HALL, True, True, True)
        self.tells((1, ((0,),) * 6), True, True, True)
        self.tells((2, ((0, 1),)), False, True, True)
        self.tells((2, ((1, 0),)), True, True, True)
        self.tells((2, ((0, 1), (1, 0))), True, True, True)

    def test_groups_that_leave_all_as_it_is(self):
        for halls in range(3, 9):
            self.tells((halls, (tuple(range(halls)),)), False, False, False)

    def test_groups_that_lead_each_two_halls_to_each(self):
        for house in PAIRWISE:
            self.tells(house, True, True, True)

    def test_turns_of_a_ring(self):
        for halls in range(3, 9):
            house = (halls, (tuple(range(1, halls)) + (0,),))
            self.tells(house, True, halls == 3, halls in (3, 5, 7))

    def test_eight_halls(self):
        # All sums in which 0 to 7 are read as three figures of 0 and 1; then with turns of the figures.
        sums = ((1, 0, 3, 2, 5, 4, 7, 6), (2, 3, 0, 1, 6, 7, 4, 5), (4, 5, 6, 7, 0, 1, 2, 3))
        self.tells((8, sums), True, False, False)
        self.tells((8, sums + ((0, 2, 4, 6, 1, 3, 5, 7),)), True, False, False)
        self.tells((8, sums + ((0, 2, 4, 6, 3, 1, 7, 5),)), True, True, True)

    def test_a_hall_that_stays(self):
        self.tells((3, ((0, 2, 1),)), False, False, False)
        self.tells((4, ((1, 2, 0, 3),)), False, False, False)
        self.tells((8, ((0, 2, 3, 4, 5, 6, 7, 1), (0, 2, 1, 3, 4, 5, 6, 7))), False, False, False)

    def test_held_against_all_maps_of_the_group(self):
        for house in GROUPS[:-1] + small_groups() + WITH_4096_NETS + WITH_MORE_NETS:
            halls = house[0]
            maps = maps_by_rows(house)
            pairs = whole(halls)
            led = {one: {places[one] for places in maps} for one in range(halls)}
            lots = {pair: {tuple(sorted(places[hall] for hall in pair)) for places in maps} for pair in pairs}
            with self.subTest(house=house):
                self.assertIs(is_transitive(house), all(led[one] == set(range(halls)) for one in led))
                self.assertIs(is_pairwise(house), all(lots[pair] == set(pairs) for pair in pairs))

    def tells(self, house, transitive, pairwise, primitive):
        """Hold what is told of a group."""
        with self.subTest(house=house):
            self.assertIs(is_transitive(house), transitive)
            self.assertIs(is_pairwise(house), pairwise)
            self.assertIs(is_primitive(house), primitive)


class KeptPartings(unittest.TestCase):
    def test_one_hall_and_two(self):
        self.assertEqual(kept_partings(ONE_HALL), (((0,),),))
        for house in ((2, ((0, 1),)), (2, ((1, 0),))):
            self.assertEqual(kept_partings(house), (((0,), (1,)), ((0, 1),)))

    def test_groups_that_lead_each_two_halls_to_each(self):
        for house in PAIRWISE:
            halls = house[0]
            self.assertEqual(kept_partings(house),
                             (tuple((hall,) for hall in range(halls)), (tuple(range(halls)),)))

    def test_groups_that_leave_all_as_it_is(self):
        self.assertEqual(kept_partings((3, ((0, 1, 2),))),
                         (((0,), (1,), (2,)), ((0,), (1, 2)), ((0, 1), (2,)), ((0, 1, 2),), ((0, 2), (1,))))
        self.assertEqual([len(kept_partings((halls, (tuple(range(halls)),)))) for halls in range(1, 6)],
                         [1, 2, 5, 15, 52])

    def test_parts_that_are_led_to_one_another(self):
        self.assertEqual(kept_partings((4, ((1, 0, 3, 2), (2, 3, 0, 1)))), (
            ((0,), (1,), (2,), (3,)), ((0, 1), (2, 3)), ((0, 1, 2, 3),), ((0, 2), (1, 3)), ((0, 3), (1, 2))))

    def test_each_letter_counts(self):
        self.assertEqual(kept_partings((4, ((0, 1, 2, 3), (0, 1, 2, 3), (1, 2, 3, 0)))), kept_partings(FOUR_RING))
        self.assertEqual(kept_partings((4, ((1, 2, 3, 0), (0, 1, 2, 3)))), kept_partings(FOUR_RING))

    def test_eight_halls(self):
        halls = tuple(range(8))
        ring = (8, (halls[1:] + (0,),))
        self.assertEqual(kept_partings(ring), (tuple((hall,) for hall in halls), (halls,),
                                               ((0, 2, 4, 6), (1, 3, 5, 7)), ((0, 4), (1, 5), (2, 6), (3, 7))))

    def test_just_a_hundred_or_fewer(self):
        partings = kept_partings(WITH_97_PARTINGS)
        self.assertEqual(len(partings), 97)
        self.assertEqual(list(partings), sorted(set(partings)))
        self.assertEqual(len(kept_partings((8, ((1, 0, 3, 2, 5, 4, 7, 6), (0, 1, 2, 3, 4, 5, 7, 6))))), 90)

    def test_held_against_all_partings(self):
        groups = [house for house in GROUPS if house[0] <= 5] + small_groups()
        for house in [*groups, SIX_RING, (6, ((1, 0, 3, 2, 4, 5), (0, 1, 2, 3, 5, 4)))]:
            halls = house[0]
            partings = partings_kept_by(maps_by_rows(house), halls)
            with self.subTest(house=house):
                self.assertEqual(kept_partings(house), tuple(partings))
                self.assertIs(is_primitive(house), not [parts for parts in partings if 1 < len(parts) < halls])


class Section(unittest.TestCase):
    def test_none_just_where_all_maps_reset(self):
        for house in GROUPS + small_groups() + WITH_4096_NETS:
            with self.subTest(house=house):
                found = section(house)
                self.assertIs(found is None, resets_all(house))
                self.assertIs(found is None, barring_nets(house) == ())
                self.assertIs(shows_section(house, found), True)
                self.assertIs(shows_section(house, None), found is None)

    def test_one_hall_and_two(self):
        for house in (ONE_HALL, (2, ((0, 1),)), (2, ((1, 0),))):
            self.assertIsNone(section(house))
            self.assertIs(shows_section(house, None), True)

    def test_held_against_all_partings_and_lots(self):
        groups = [house for house in GROUPS if house[0] <= 4] + small_groups()
        for house in [*groups, FIVE_RING, (5, ((1, 2, 0, 4, 3),)), SIX_RING]:
            sections = sections_of(house)
            with self.subTest(house=house):
                self.assertIs(section(house) in sections, bool(sections))
                self.assertIs(section(house) is None, not sections)
                for value in sections:
                    self.assertIs(shows_section(house, value), True)

    def test_what_follows_for_groups_of_three_halls_and_more(self):
        for house in GROUPS + small_groups() + WITH_4096_NETS:
            if house[0] >= 3 and section(house) is None:
                self.assertIs(is_primitive(house), True)
            if is_pairwise(house):
                self.assertIsNone(section(house))


class ShowsSection(unittest.TestCase):
    def test_any_section(self):
        for lot in ((0, 1), (0, 3), (1, 2), (2, 3)):
            self.assertIs(shows_section(FOUR_RING, (PARTS, lot)), True)
        for parts in (((0, 1), (2, 3)), ((0, 3), (1, 2))):
            for lot in ((0, 2), (1, 3)):
                self.assertIs(shows_section(FOUR_RING, (parts, lot)), True)
        for lot in ((0, 1, 2), (0, 1, 5), (3, 4, 5)):
            self.assertIs(shows_section(SIX_RING, (SIX_PARTS, lot)), True)
        self.assertIs(shows_section(EIGHT_HALLS, (((0, 7), (1,), (2, 3, 4), (5, 6)), (1, 3, 5, 7))), True)

    def test_wrong_parts(self):
        for parts in WRONG_PARTS:
            with self.subTest(parts=parts):
                self.assertIs(shows_section(FOUR_RING, (parts, LOT)), False)

    def test_as_many_parts_as_halls_or_one(self):
        for halls in range(1, 9):
            house = (halls, (tuple(range(halls)),))
            single = tuple((hall,) for hall in range(halls))
            self.assertIs(shows_section(house, (single, tuple(range(halls)))), False)
            self.assertIs(shows_section(house, ((tuple(range(halls)),), (0,))), False)

    def test_wrong_lots(self):
        for lot in WRONG_SECTION_LOTS:
            if lot not in ((0, 3), (0, 1), (1, 2)):
                with self.subTest(lot=lot):
                    self.assertIs(shows_section(FOUR_RING, (PARTS, lot)), False)
        for lot in ((False, 1), (0, True), [0, 1], (0, 1.0), (0, 1, 2), (0,)):
            self.assertIs(shows_section(FOUR_RING, (PARTS, lot)), False)

    def test_a_turn_behind_which_a_part_has_two_halls_of_the_lot(self):
        self.assertIs(shows_section(SIX_RING, (SIX_PARTS, (0, 1, 2))), True)
        self.assertIs(shows_section(SIX_RING, (((0, 1), (2, 3), (4, 5)), (0, 2, 5))), False)
        self.assertIs(shows_section(FIVE_RING, (((0, 2), (1, 3, 4)), (0, 1))), False)
        # Only the second letter, and only two letters together, lead two halls to one part.
        self.assertIs(shows_section((3, ((0, 1, 2), (1, 0, 2))), (((0, 1), (2,)), (0, 2))), True)
        self.assertIs(shows_section((3, ((0, 1, 2), (0, 2, 1))), (((0, 1), (2,)), (0, 2))), False)
        five = (5, ((1, 0, 2, 3, 4), (0, 2, 1, 3, 4)))
        self.assertIs(shows_section(five, (((0, 3), (1, 2, 4)), (2, 3))), False)
        self.assertIs(shows_section((5, five[1][1:]), (((0, 3), (1, 2, 4)), (2, 3))), True)

    def test_no_pairs(self):
        right = (PARTS, LOT)
        for value in NO_VALUES + [list(right), (PARTS,), right + (0,), right + ((),), right[::-1], PARTS, LOT, (right,),
                                  (None, None), (None, LOT), (PARTS, None), ({}, {}), ([], []), "ab"]:
            for house in (FOUR_RING, ONE_HALL, (2, ((1, 0),)), FIVE_RING, EIGHT_HALLS):
                with self.subTest(house=house, value=value):
                    self.assertIs(shows_section(house, value), False)

    def test_held_against_all_values_of_three_halls(self):
        parts = [(), *lots_of(3), (1, 0), (2, 1), (0, 0), (3,), (-1, 0)]
        values = [value for many in range(4) for value in itertools.product(parts, repeat=many)]
        for maps in [((0, 1, 2),), ((1, 0, 2),), ((0, 2, 1),), ((1, 2, 0),)]:
            sections = sections_of((3, maps))
            for value in itertools.product(values, parts):
                self.assertIs(shows_section((3, maps), value), value in sections, msg=(maps, value))


class TooManyOfThem(RaisingCase):
    def test_nets(self):
        for house in WITH_MORE_NETS:
            self.raises({"most": 4096}, TooMany, section, house)
            self.raises({"most": 4096}, TooMany, shows_section, house, None)

    def test_other_values_never_do(self):
        for house, value in itertools.product(WITH_MORE_NETS, NO_VALUES):
            self.assertIs(shows_section(house, value), False)
        six = (6, ((0, 1, 2, 3, 4, 5),))
        self.assertIs(shows_section(six, (((0, 1, 2), (3, 4, 5)), (2, 4))), True)
        self.assertIs(shows_section(six, (((0, 1, 2), (3, 4, 5)), (1, 2))), False)
        self.assertIs(shows_section(WITH_MORE_NETS[2], (((0, 1), (2, 3, 4, 5, 6, 7)), (1, 2))), True)

    def test_those_that_never_do(self):
        self.assertGreater(2 ** len(pair_lots(WITH_97_PARTINGS)), 4096)
        self.assertEqual(len(kept_partings(WITH_97_PARTINGS)), 97)
        for house in WITH_MORE_NETS:
            for function in (is_transitive, is_pairwise, is_primitive):
                self.assertIs(function(house), False)

    def test_partings(self):
        for house in [WITH_112_PARTINGS, EIGHT_HALLS, (6, ((0, 1, 2, 3, 4, 5),)), (8, ((1, 0, 3, 2, 5, 4, 7, 6),))]:
            self.raises({"most": 100}, TooMany, kept_partings, house)
            for function in (is_transitive, is_pairwise, is_primitive):
                self.assertIs(function(house), False)


class Errors(RaisingCase):
    def test_houses_that_are_wrong_or_not_of_turns(self):
        for function in OF_TURNS:
            self.takes_turns_alone(function)
        for last in (None, (PARTS, LOT), *NO_VALUES):
            self.takes_turns_alone(shows_section, last)

    def test_equal_answers_for_equal_arguments(self):
        for house in GROUPS:
            again = (house[0], tuple(tuple(list(places)) for places in house[1]))
            for function in NEVER_4096:
                self.assertEqual(function(house), function(again))

    def test_arguments_are_not_modified(self):
        for house, value in [([4, [[1, 2, 3, 0]]], [[], [1, 0]]), (FOUR_RING, [[[0, 2], [1, 3]], [0, 1]]),
                             (FOUR_RING, ([[2, 0], [1]], [1, 0])), (FOUR_RING, ({0: [1]}, {})), (FOUR_RING, None)]:
            for function in OF_TURNS:
                self.leaves(function, house)
            self.leaves(shows_section, house, value)


if __name__ == "__main__":
    unittest.main()
