"""What bars a reset (point 5)."""

import itertools
import unittest

from resetcalls.bars import bar, never_meet, shows_bar
from resetcalls.calls import has_reset
from resetcalls.errors import BadHouse
from resetcalls.nets import is_barring, keeps
from tests.cases import RaisingCase
from tests.samples import (EIGHT_AND_SIX, EIGHT_HALLS, FOUR_RING, HOUSE, HOUSES, ONE_HALL, THREE, WRONG_HOUSES,
                           WRONG_LOTS, WRONG_NETS, cerny_house, drawn_houses, lots_of, nets_of, small_houses,
                           whole)
from tests.second_way import may_bar, never_met

NO_TRIPLES = [
    True, False, 0, 1, 3, "", "abc", (), [], {}, {0: 1}, (None,), (None, None, None), ((), (), ()), ([], [], []),
    ((), (0,), (0, 0, 0)), ((0, 2), (0, 2), (0, 0, 1)), "net", (1, 2, 3), (True, True, True), ({}, {}, {}),
]

# A bar of THREE, and values in place of each of its parts.
NET, CLIQUE, NUMBERS = ((0, 2), (1, 2)), (0, 2), (0, 0, 1)
WRONG_CLIQUES = [
    None, True, 2, "02", [0, 2], {0: 2}, (), (0,), (2,), (2, 0), (0, 0), (2, 2), (0, 1), (0, 1, 2), (0, 3), (-1, 2),
    (0, 2, 2), (False, 2), (0, True), (1, True), (0, None), ("0", "2"), ((0, 2),), ([0], [2]), (0, 2, None),
]
WRONG_COLOURS = [
    None, True, 1, "001", [0, 0, 1], {0: 0, 1: 0, 2: 1}, (), (0, 0), (0, 1), (0, 0, 1, 0), (0, 0, 1, 1), (0, 0, 0),
    (1, 1, 1), (0, 1, 1), (1, 0, 1), (0, 0, 2), (2, 2, 0), (0, 2, 1), (-1, -1, 0), (0, 0, -1), (0, 0, True),
    (False, False, 1), (False, 0, 1), (0, 0, None), (0, 0, "1"), (0, 0, (1,)), ([0], [0], [1]), ((0, 0, 1),),
]


class Examples(unittest.TestCase):
    def test_values(self):
        three = (3, ((1, 0, 2), (0, 0, 2)))
        self.assertEqual(never_meet(three), ((0, 2), (1, 2)))
        self.assertIs(shows_bar(three, bar(three)), True)
        self.assertIs(shows_bar(three, (((0, 2), (1, 2)), (0, 2), (0, 0, 1))), True)
        self.assertIsNone(bar((2, ((0, 0),))))


class NeverMeet(unittest.TestCase):
    def test_edges(self):
        self.assertEqual(never_meet(ONE_HALL), ())
        self.assertEqual(never_meet((2, ((0, 0),))), ())
        self.assertEqual(never_meet((2, ((1, 0),))), ((0, 1),))
        self.assertEqual(never_meet(EIGHT_HALLS), whole(8))
        self.assertEqual(never_meet(EIGHT_AND_SIX), ())
        self.assertEqual(never_meet(cerny_house(8)), ())

    def test_halls_that_meet_only_late(self):
        self.assertEqual(never_meet((4, ((1, 2, 2, 3),))), ((0, 3), (1, 3), (2, 3)))

    def test_held_against_all_maps_of_rows(self):
        for house in small_houses() + drawn_houses(40, 4, 2, 31) + drawn_houses(10, 5, 2, 32):
            with self.subTest(house=house):
                self.assertEqual(never_meet(house), never_met(house))

    def test_all_letters_keep_it(self):
        for house in HOUSES + drawn_houses(40, 4, 1, 33) + drawn_houses(20, 8, 1, 34):
            self.assertIs(keeps(house, never_meet(house)), True)


class Bar(unittest.TestCase):
    def test_one_exactly_without_a_reset(self):
        houses = HOUSES + small_houses() + drawn_houses(60, 4, 1, 35) + drawn_houses(30, 5, 2, 36)
        for house in houses + drawn_houses(30, 8, 1, 37):
            with self.subTest(house=house):
                self.assertIs(bar(house) is None, has_reset(house))
                self.assertIs(shows_bar(house, bar(house)), True)
                self.assertIs(shows_bar(house, None), has_reset(house))

    def test_its_parts(self):
        for house in [THREE, FOUR_RING, EIGHT_HALLS, *drawn_houses(40, 5, 1, 38)]:
            found = bar(house)
            if found is not None:
                self.assertIs(may_bar(house, found) if house[0] < 6 else shows_bar(house, found), True)
                self.assertEqual([type(part) for part in (found, *found)], [tuple] * 4)
                self.assertIs(is_barring(house[0], found[0]), True)

    def test_a_kept_net_that_is_not_barring_is_no_bar(self):
        # All letters keep the ring of five; it has no clique of three, and needs three colours.
        house = (5, ((1, 2, 3, 4, 0),))
        five = ((0, 1), (0, 4), (1, 2), (2, 3), (3, 4))
        self.assertIs(keeps(house, five), True)
        for numbers in itertools.product(range(2), repeat=5):
            self.assertIs(shows_bar(house, (five, (0, 1), numbers)), False)
        self.assertIs(shows_bar(house, (five, (0, 1), (0, 1, 0, 1, 2))), False)
        self.assertIs(shows_bar(house, bar(house)), True)


class ShowsBar(unittest.TestCase):
    def test_any_such_value(self):
        for clique, numbers in itertools.product([(0, 2), (1, 2)], [(0, 0, 1), (1, 1, 0)]):
            self.assertIs(shows_bar(THREE, (NET, clique, numbers)), True)
        diagonals = ((0, 2), (1, 3))
        for numbers in [(0, 0, 1, 1), (1, 0, 0, 1), (0, 1, 1, 0)]:
            self.assertIs(shows_bar(FOUR_RING, (diagonals, (1, 3), numbers)), True)

    def test_the_whole_net(self):
        eight = tuple(range(8))
        net = whole(8)
        self.assertIs(shows_bar(EIGHT_HALLS, (net, eight, eight[::-1])), True)
        self.assertIs(shows_bar((2, ((1, 0),)), (((0, 1),), (0, 1), (1, 0))), True)

    def test_none(self):
        self.assertIs(shows_bar(HOUSE, None), True)
        self.assertIs(shows_bar(ONE_HALL, None), True)
        self.assertIs(shows_bar(THREE, None), False)
        self.assertIs(shows_bar(EIGHT_HALLS, None), False)

    def test_wrong_nets(self):
        for net in WRONG_NETS + [(), ((0, 2),), ((1, 2),), ((0, 1),), ((0, 1), (0, 2), (1, 2)), ((0, 1), (1, 2))]:
            with self.subTest(net=net):
                self.assertIs(shows_bar(THREE, (net, CLIQUE, NUMBERS)), False)
                self.assertIs(shows_bar(THREE, (net, (0, 1), NUMBERS)), False)
                self.assertIs(shows_bar(THREE, (net, (0, 1, 2), (0, 1, 2))), False)

    def test_wrong_cliques(self):
        for clique in WRONG_CLIQUES + WRONG_LOTS:
            if clique not in ((0, 2), (1, 2)):
                with self.subTest(clique=clique):
                    self.assertIs(shows_bar(THREE, (NET, clique, NUMBERS)), False)

    def test_wrong_colours(self):
        for numbers in WRONG_COLOURS:
            with self.subTest(numbers=numbers):
                self.assertIs(shows_bar(THREE, (NET, CLIQUE, numbers)), False)

    def test_no_triples(self):
        right = (NET, CLIQUE, NUMBERS)
        for value in NO_TRIPLES + [list(right), right[:2], right + (0,), right + ((),), (right,), right[::-1]]:
            for house in (THREE, HOUSE, ONE_HALL, FOUR_RING):
                with self.subTest(house=house, value=value):
                    self.assertIs(shows_bar(house, value), False)

    def test_a_bar_of_another_house(self):
        self.assertIs(shows_bar(HOUSE, (NET, CLIQUE, NUMBERS)), False)
        self.assertIs(shows_bar(FOUR_RING, (NET, CLIQUE, NUMBERS)), False)
        self.assertIs(shows_bar((2, ((1, 0),)), (NET, CLIQUE, NUMBERS)), False)

    def test_held_against_all_triples(self):
        houses = [THREE, HOUSE, (3, ((0, 1, 2),)), (3, ((1, 0, 2),)), (3, ((1, 2, 0), (1, 0, 2))), (3, ((0, 0, 2),)),
                  (2, ((1, 0),)), (2, ((0, 0),)), ONE_HALL]
        for house in houses:
            halls = house[0]
            cliques = lots_of(halls) + [(), lots_of(halls)[-1][::-1], (0, 3)]
            tuples = itertools.product(range(-1, halls + 1), repeat=halls)
            right = 0
            for value in itertools.product(nets_of(halls) + [((1, 0),)], cliques, list(tuples)):
                answer = shows_bar(house, value)
                self.assertIs(answer, may_bar(house, value), msg=(house, value))
                right += answer
            self.assertEqual(right > 0, not has_reset(house))


class Errors(RaisingCase):
    def test_wrong_houses(self):
        for value, part in WRONG_HOUSES:
            with self.subTest(value=value):
                self.raises({"part": part}, BadHouse, never_meet, value)
                self.raises({"part": part}, BadHouse, bar, value)
                for last in [None, (NET, CLIQUE, NUMBERS), *NO_TRIPLES]:
                    self.raises({"part": part}, BadHouse, shows_bar, value, last)

    def test_equal_answers_for_equal_arguments(self):
        for house in small_houses() + drawn_houses(20, 4, 1, 39):
            again = (house[0], tuple(tuple(list(places)) for places in house[1]))
            self.assertEqual(never_meet(house), never_meet(again))

    def test_arguments_are_not_modified(self):
        for house, value in [([3, [[1, 2, 0]]], [[], [1, 0]]), (THREE, ([(1, 2)], [1, 0], [0])), (THREE, [{}]),
                             (THREE, (NET, CLIQUE, {0: [1]})), (HOUSE, None)]:
            self.leaves(never_meet, house)
            self.leaves(bar, house)
            self.leaves(shows_bar, house, value)


if __name__ == "__main__":
    unittest.main()
