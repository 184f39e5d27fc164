"""Nets, their cliques and their colours (point 4)."""

import itertools
import unittest

from resetcalls.errors import BadHouse, BadNet, BadNumber
from resetcalls.nets import colours, greatest_clique, is_barring, keeps, least_colours
from tests.cases import RaisingCase
from tests.samples import (EIGHT_HALLS, FIVE, FOUR_RING, HOUSE, HOUSES, KNOWN_NETS, ONE_HALL, RING, THREE, WHEEL,
                           WRONG_HOUSES, WRONG_NETS, WRONG_NUMBERS, drawn_houses, drawn_nets, nets_of, small_houses,
                           whole)
from tests.second_way import bars, clique_by_lots, colours_by_all_tuples, colours_by_tuples, kept_by

OF_A_NET = (greatest_clique, colours, least_colours, is_barring)


class Examples(unittest.TestCase):
    def test_values(self):
        ring, five = ((0, 1), (0, 3), (1, 2), (2, 3)), ((0, 1), (0, 4), (1, 2), (2, 3), (3, 4))
        self.assertEqual(greatest_clique(4, ring), (0, 1))
        self.assertEqual(colours(4, ring), (0, 1, 0, 1))
        self.assertIs(is_barring(4, ring), True)
        self.assertEqual(least_colours(5, five), 3)
        self.assertIs(is_barring(5, five), False)
        self.assertIs(keeps((4, ((1, 2, 3, 0),)), ring), True)

    def test_error(self):
        with self.assertRaises(BadNet) as caught:
            colours(3, ((1, 0),))
        self.assertEqual(vars(caught.exception), {})


class Keeps(unittest.TestCase):
    def test_ties_to_ties(self):
        self.assertIs(keeps(THREE, ((0, 2), (1, 2))), True)
        self.assertIs(keeps(THREE, ((0, 2),)), False)
        self.assertIs(keeps(FOUR_RING, ((0, 2), (1, 3))), True)
        self.assertIs(keeps(FOUR_RING, ((0, 2),)), False)
        self.assertIs(keeps((3, ((1, 0, 0),)), ((0, 1), (0, 2))), True)

    def test_ties_to_one_hall(self):
        self.assertIs(keeps((2, ((0, 0),)), ((0, 1),)), False)
        self.assertIs(keeps(HOUSE, ((0, 1), (0, 2), (1, 2))), False)

    def test_each_letter_counts(self):
        keeping, other = (1, 0, 2), (0, 0, 0)
        self.assertIs(keeps((3, (keeping, keeping)), ((0, 1),)), True)
        self.assertIs(keeps((3, (keeping, other)), ((0, 1),)), False)
        self.assertIs(keeps((3, (other, keeping)), ((0, 1),)), False)

    def test_the_void_net_is_kept_by_all(self):
        for house in HOUSES + small_houses():
            self.assertIs(keeps(house, ()), True)

    def test_the_whole_net_is_kept_by_turns(self):
        for house in HOUSES + small_houses():
            turns = all(len(set(places)) == house[0] for places in house[1])
            self.assertIs(keeps(house, whole(house[0])), turns)

    def test_held_against_each_tie(self):
        for house in small_houses() + drawn_houses(20, 4, 1, 21):
            for net in nets_of(house[0]):
                self.assertIs(keeps(house, net), kept_by(house[1], net))


class CliquesAndColours(unittest.TestCase):
    def test_known_ones(self):
        for halls, net, clique, numbers in KNOWN_NETS:
            with self.subTest(halls=halls, net=net):
                self.hold(halls, net, clique, numbers)

    def test_void_and_whole_nets(self):
        for halls in range(1, 9):
            self.hold(halls, (), (0,), (0,) * halls)
            self.hold(halls, whole(halls), tuple(range(halls)), tuple(range(halls)))

    def test_cliques_need_no_colour_that_is_not_theirs(self):
        for halls in range(2, 9):
            star = tuple((0, hall) for hall in range(1, halls))
            self.hold(halls, star, (0, 1), (0,) + (1,) * (halls - 1))

    def test_rings(self):
        for halls in range(3, 9):
            ring = tuple(sorted(tuple(sorted((hall, (hall + 1) % halls))) for hall in range(halls)))
            self.assertEqual(least_colours(halls, ring), 2 + halls % 2)
            self.assertEqual(greatest_clique(halls, ring), (0, 1) if halls > 3 else (0, 1, 2))
            self.assertIs(is_barring(halls, ring), halls in (3, 4, 6, 8))

    def test_more_colours_than_the_greatest_clique_has_halls(self):
        missing = whole(7)
        ring = {tuple(sorted((hall, (hall + 1) % 7))) for hall in range(7)}
        without_ring = tuple(tie for tie in missing if tie not in ring)
        for halls, net, many in [(5, FIVE, 3), (8, FIVE, 3), (6, WHEEL, 4), (7, without_ring, 4)]:
            self.assertEqual(len(greatest_clique(halls, net)), many - 1)
            self.assertEqual(least_colours(halls, net), many)
            self.assertIs(is_barring(halls, net), False)

    def test_the_greatest_is_before_the_least(self):
        self.assertEqual(greatest_clique(5, ((0, 1), (2, 3), (2, 4), (3, 4))), (2, 3, 4))
        self.assertEqual(greatest_clique(4, ((1, 3), (2, 3))), (1, 3))

    def test_few_colours_come_before_the_least_tuple(self):
        net = ((0, 2), (1, 3), (2, 3))
        self.assertEqual(colours(4, net), (0, 1, 1, 0))
        self.assertEqual(least_colours(4, net), 2)

    def test_kinds_of_answers(self):
        for halls, net, _, _ in KNOWN_NETS:
            for answer in (greatest_clique(halls, net), colours(halls, net)):
                self.assertIs(type(answer), tuple)
                self.assertEqual({type(number) for number in answer}, {int})
            self.assertIs(type(least_colours(halls, net)), int)
            self.assertIs(type(is_barring(halls, net)), bool)

    def hold(self, halls, net, clique, numbers):
        """Hold all answers for a net."""
        self.assertEqual(greatest_clique(halls, net), clique)
        self.assertEqual(colours(halls, net), numbers)
        self.assertEqual(least_colours(halls, net), len(set(numbers)))
        self.assertIs(is_barring(halls, net), net != () and len(clique) == len(set(numbers)))


class SecondWay(unittest.TestCase):
    def test_all_nets_of_few_halls(self):
        for halls in range(1, 5):
            for net in nets_of(halls):
                with self.subTest(halls=halls, net=net):
                    self.assertEqual(colours(halls, net), colours_by_all_tuples(halls, net))
                    self.hold(halls, net)

    def test_all_nets_of_five_halls(self):
        for net in nets_of(5):
            with self.subTest(net=net):
                self.hold(5, net)

    def test_nets_of_more_halls(self):
        for halls, many in ((6, 25), (7, 15), (8, 8)):
            for net in drawn_nets(many, halls, halls):
                with self.subTest(halls=halls, net=net):
                    self.hold(halls, net)

    def hold(self, halls, net):
        """Hold all answers for a net against all lots and all tuples of numbers."""
        numbers = colours_by_tuples(halls, net)
        self.assertEqual(greatest_clique(halls, net), clique_by_lots(halls, net))
        self.assertEqual(colours(halls, net), numbers)
        self.assertEqual(least_colours(halls, net), len(set(numbers)))
        self.assertIs(is_barring(halls, net), bars(halls, net))


class Errors(RaisingCase):
    def test_wrong_houses(self):
        for value, part in WRONG_HOUSES:
            with self.subTest(value=value):
                self.raises({"part": part}, BadHouse, keeps, value, ())

    def test_wrong_numbers(self):
        for value in WRONG_NUMBERS:
            with self.subTest(value=value):
                for function in OF_A_NET:
                    self.raises({}, BadNumber, function, value, ())

    def test_wrong_nets(self):
        for value in WRONG_NETS:
            with self.subTest(value=value):
                self.raises({}, BadNet, keeps, HOUSE, value)
                for function in OF_A_NET:
                    self.raises({}, BadNet, function, 3, value)

    def test_nets_of_more_halls(self):
        self.raises({}, BadNet, keeps, ONE_HALL, ((0, 1),))
        self.raises({}, BadNet, keeps, EIGHT_HALLS, ((0, 8),))
        for function in OF_A_NET:
            self.raises({}, BadNet, function, 1, ((0, 1),))
            self.raises({}, BadNet, function, 3, RING)
            self.raises({}, BadNet, function, 8, ((0, 1), (7, 8)))

    def test_the_leftmost_of_several(self):
        for net in WRONG_NETS:
            for value, part in WRONG_HOUSES:
                self.raises({"part": part}, BadHouse, keeps, value, net)
            for value, function in itertools.product(WRONG_NUMBERS, OF_A_NET):
                self.raises({}, BadNumber, function, value, net)

    def test_arguments_are_not_modified(self):
        for halls, net in [([3], [[1, 0]]), (3, [(1, 2), (0, 1)]), (3, ((0, 1), [1, 0])), (3, ((0, 2),))]:
            self.leaves(keeps, HOUSE, net)
            self.leaves(keeps, [3, [[0, 1, 2]]], net)
            for function in OF_A_NET:
                self.leaves(function, halls, net)


if __name__ == "__main__":
    unittest.main()
