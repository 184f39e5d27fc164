"""Groups of turns: kept nets, and the maps with which they reset (points 6 and 7)."""

import itertools
import unittest

from resetcalls.errors import BadHouse, BadMap, NotTurns, TooMany
from resetcalls.groups import (barring_nets, group_bar, kept_nets, pair_lots, resets_all, resets_with, resisting,
                               shows_group_bar, shows_resisting)
from resetcalls.nets import is_barring
from tests.cases import RaisingCase
from tests.samples import (CUBE, EIGHT_AND_SIX, EIGHT_HALLS, FIVE_RING, FOUR_RING, GROUPS, HOUSE, NO_VALUES, ONE_HALL,
                           PAIRWISE, RING, THREE, WITH_4096_NETS, WITH_MORE_NETS, WRONG_HOUSES, WRONG_MAPS, WRONG_NETS,
                           drawn_houses, lots_of, maps_of, nets_of, small_groups, small_houses, whole)
from tests.second_way import bars, each_two_meet, kept_of_all_nets, maps_by_rows, may_bar

OF_TURNS = (pair_lots, kept_nets, barring_nets, resets_all, resisting, group_bar)
SHOWING = (shows_resisting, shows_group_bar)
# Just one letter moves the halls, the first one or the last.
STAY, MOVE = tuple(range(8)), tuple(range(1, 8)) + (0,)
SIX_LETTERS = [(8, (MOVE,) + (STAY,) * 5), (8, (STAY,) * 5 + (MOVE,)), (8, (MOVE,) * 6)]

DIAGONALS = ((0, 2), (1, 3))

# In place of the parts of (RING, (0, 1), (0, 1, 0, 1)) for FOUR_RING.
WRONG_CLIQUES = [None, True, "01", [0, 1], (), (0,), (1, 0), (0, 0), (0, 2), (0, 1, 2), (0, 4), (-1, 0), (0, True),
                 (False, 1), (0, None), ((0, 1),)]
WRONG_COLOURS = [None, True, "0101", [0, 1, 0, 1], (), (0, 1, 0), (0, 1, 0, 1, 0), (0, 0, 0, 0), (0, 1, 1, 0),
                 (0, 1, 0, 2), (2, 1, 2, 1), (0, -1, 0, -1), (0, 1, 0, True), (False, 1, False, 1), (0, 1, 0, None)]


class Examples(unittest.TestCase):
    def test_nets(self):
        four, five = (4, ((1, 2, 3, 0),)), (5, ((1, 2, 3, 4, 0),))
        ring, diagonals = ((0, 1), (0, 3), (1, 2), (2, 3)), ((0, 2), (1, 3))
        self.assertEqual(pair_lots(four), (ring, diagonals))
        self.assertEqual(len(kept_nets(four)), 4)
        self.assertEqual(barring_nets(four), (ring, diagonals))
        self.assertIs(resets_all(four), False)
        self.assertIs(resets_all(five), True)

    def test_maps(self):
        four = (4, ((1, 2, 3, 0),))
        self.assertIs(resets_with(four, (0, 0, 2, 2)), False)
        self.assertIs(resets_with(four, (0, 0, 2, 3)), True)
        self.assertIs(shows_resisting(four, resisting(four)), True)

    def test_error(self):
        with self.assertRaises(NotTurns) as caught:
            resets_all((2, ((0, 0),)))
        self.assertEqual(vars(caught.exception), {})


class PairLots(unittest.TestCase):
    def test_edges(self):
        self.assertEqual(pair_lots(ONE_HALL), ())
        self.assertEqual(pair_lots((2, ((0, 1),))), (((0, 1),),))
        self.assertEqual(pair_lots(EIGHT_HALLS), tuple((tie,) for tie in whole(8)))
        for house in PAIRWISE:
            self.assertEqual(pair_lots(house), (whole(house[0]),))

    def test_one_lot_may_hold_ties_that_are_led_in_turn(self):
        self.assertEqual(pair_lots((3, ((1, 0, 2),))), (((0, 1),), ((0, 2), (1, 2))))
        self.assertEqual(pair_lots(FIVE_RING), (((0, 1), (0, 4), (1, 2), (2, 3), (3, 4)),
                                                ((0, 2), (0, 3), (1, 3), (1, 4), (2, 4))))

    def test_held_against_all_maps_of_the_group(self):
        for house in GROUPS[:-1] + small_groups() + WITH_4096_NETS + WITH_MORE_NETS:
            maps = maps_by_rows(house)
            lots = {tuple(sorted({tuple(sorted((places[one], places[other]))) for places in maps}))
                    for one, other in whole(house[0])}
            with self.subTest(house=house):
                self.assertEqual(pair_lots(house), tuple(sorted(lots)))


class KeptNets(unittest.TestCase):
    def test_one_hall_and_two(self):
        self.assertEqual(kept_nets(ONE_HALL), ((),))
        self.assertEqual(barring_nets(ONE_HALL), ())
        for house in ((2, ((0, 1),)), (2, ((1, 0),))):
            self.assertEqual(kept_nets(house), ((), ((0, 1),)))
            self.assertEqual(barring_nets(house), ())

    def test_a_group_that_leads_each_two_halls_to_each(self):
        for house in PAIRWISE:
            self.assertEqual(kept_nets(house), ((), whole(house[0])))
            self.assertEqual(barring_nets(house), ())

    def test_a_group_that_leaves_all_as_it_is(self):
        for halls in (3, 4):
            house = (halls, (tuple(range(halls)),))
            self.assertEqual(kept_nets(house), tuple(sorted(nets_of(halls))))
            self.assertEqual(barring_nets(house), tuple(sorted(
                net for net in nets_of(halls) if bars(halls, net) and net != whole(halls))))

    def test_four_in_a_ring(self):
        self.assertEqual(kept_nets(FOUR_RING), ((), whole(4), RING, DIAGONALS))

    def test_the_ring_of_five_is_kept_and_not_barring(self):
        self.assertEqual(len(kept_nets(FIVE_RING)), 4)
        self.assertEqual(barring_nets(FIVE_RING), ())

    def test_eight_halls(self):
        cube = (8, ((1, 3, 0, 2, 5, 7, 4, 6), (0, 2, 4, 6, 1, 3, 5, 7)))
        self.assertEqual(len(kept_nets(cube)), 8)
        self.assertIn(CUBE, kept_nets(cube))
        self.assertIn(CUBE, barring_nets(cube))
        self.assertNotIn(whole(8), barring_nets(cube))

    def test_just_4096(self):
        for house in WITH_4096_NETS:
            nets = kept_nets(house)
            self.assertEqual(len(pair_lots(house)), 12)
            self.assertEqual(len(nets), 4096)
            self.assertEqual(list(nets), sorted(set(nets)))
            self.assertIn((), nets)
            self.assertIn(whole(house[0]), nets)
        barring = barring_nets(WITH_4096_NETS[0])
        self.assertEqual(barring, tuple(net for net in kept_nets(WITH_4096_NETS[0])
                                        if net != whole(7) and is_barring(7, net)))

    def test_held_against_all_nets(self):
        for house in [house for house in GROUPS if house[0] <= 5] + small_groups():
            nets = sorted(kept_of_all_nets(house))
            with self.subTest(house=house):
                self.assertEqual(kept_nets(house), tuple(nets))
                self.assertEqual(barring_nets(house), tuple(
                    net for net in nets if bars(house[0], net) and net != whole(house[0])))


class ResetsWith(unittest.TestCase):
    def test_letters_that_are_no_turns(self):
        self.assertIs(resets_with(HOUSE, (0, 1, 2)), True)
        self.assertIs(resets_with(THREE, (0, 1, 2)), False)
        self.assertIs(resets_with(THREE, (0, 2, 1)), True)
        self.assertIs(resets_with(THREE, (0, 0, 0)), True)

    def test_edges(self):
        self.assertIs(resets_with(ONE_HALL, (0,)), True)
        self.assertIs(resets_with((2, ((1, 0),)), (0, 0)), True)
        self.assertIs(resets_with((2, ((1, 0),)), (1, 0)), False)
        self.assertIs(resets_with(EIGHT_HALLS, (0,) * 8), True)
        self.assertIs(resets_with(EIGHT_HALLS, (0, 0, 1, 2, 3, 4, 5, 6)), True)
        self.assertIs(resets_with(EIGHT_HALLS, (0, 0, 1, 2, 3, 4, 5, 7)), False)

    def test_six_letters_and_the_map(self):
        for house in SIX_LETTERS:
            self.assertIs(resets_with(house, tuple(range(7)) + (0,)), True)
            self.assertIs(resets_with(house, (0, 1, 2, 3, 0, 1, 2, 3)), False)
        self.assertIs(resets_with(EIGHT_AND_SIX, tuple(range(8))), True)

    def test_never_too_many(self):
        for house in WITH_MORE_NETS:
            self.assertIs(resets_with(house, (0,) * house[0]), True)
            self.assertIs(resets_with(house, tuple(range(house[0]))), False)

    def test_held_against_halls_that_meet(self):
        for house in small_houses() + drawn_houses(10, 4, 1, 41):
            for places in maps_of(house[0]):
                self.assertIs(resets_with(house, places), each_two_meet(house[0], house[1] + (places,)),
                              msg=(house, places))


class ResetsAll(unittest.TestCase):
    def test_one_hall_and_two(self):
        for house in (ONE_HALL, (2, ((0, 1),)), (2, ((1, 0),))):
            self.all_reset(house)

    def test_groups_that_lead_each_two_halls_to_each(self):
        for house in PAIRWISE:
            self.all_reset(house)

    def test_turns_of_a_ring(self):
        for halls in range(3, 9):
            house = (halls, (tuple(range(1, halls)) + (0,),))
            with self.subTest(halls=halls):
                if halls in (3, 5, 7):
                    self.all_reset(house)
                else:
                    self.one_resists(house)

    def test_a_group_that_leaves_all_as_it_is(self):
        for halls in range(3, 6):
            self.one_resists((halls, (tuple(range(halls)),)))

    def test_just_4096_kept_nets(self):
        for house in WITH_4096_NETS:
            self.one_resists(house)

    def test_held_against_all_maps(self):
        groups = [house for house in GROUPS if house[0] <= 4] + small_groups()
        for house in [*groups, FIVE_RING, (5, ((1, 2, 0, 4, 3),))]:
            halls, letters = house
            resist = {places for places in maps_of(halls)
                      if len(set(places)) < halls and not each_two_meet(halls, letters + (places,))}
            with self.subTest(house=house):
                self.assertIs(resets_all(house), not resist)
                self.assertIs(resets_all(house), barring_nets(house) == ())
                for places in maps_of(halls):
                    self.assertIs(shows_resisting(house, places), places in resist)
                self.assertIs(shows_resisting(house, None), not resist)
                self.assertIs(resisting(house) in resist, bool(resist))

    def all_reset(self, house):
        """Hold that a group resets with every map that isn't one to one."""
        self.assertIs(resets_all(house), True)
        self.assertIsNone(resisting(house))
        self.assertIsNone(group_bar(house))
        self.assertIs(shows_resisting(house, None), True)
        self.assertIs(shows_group_bar(house, None), True)

    def one_resists(self, house):
        """Hold that a group doesn't, and what is told of that."""
        self.assertIs(resets_all(house), False)
        places = resisting(house)
        self.assertIs(type(places), tuple)
        self.assertLess(len(set(places)), house[0])
        self.assertIs(each_two_meet(house[0], house[1] + (places,)), False)
        self.assertIs(shows_resisting(house, places), True)
        self.assertIs(shows_group_bar(house, group_bar(house)), True)
        self.assertIn(group_bar(house)[0], kept_nets(house))
        self.assertNotEqual(group_bar(house)[0], whole(house[0]))
        self.assertIs(shows_resisting(house, None), False)
        self.assertIs(shows_group_bar(house, None), False)


class ShowsResisting(unittest.TestCase):
    def test_any_such_map(self):
        for places in [(0, 0, 2, 2), (0, 1, 0, 1), (3, 2, 3, 2), (1, 3, 3, 1)]:
            self.assertIs(shows_resisting(FOUR_RING, places), True)
        self.assertIs(shows_resisting(EIGHT_HALLS, (0, 0, 1, 2, 3, 4, 5, 7)), True)

    def test_maps_that_are_one_to_one(self):
        for places in itertools.permutations(range(4)):
            self.assertIs(shows_resisting(FOUR_RING, places), False)
        self.assertIs(shows_resisting(ONE_HALL, (0,)), False)

    def test_maps_with_a_reset(self):
        for places in [(0, 0, 0, 0), (0, 0, 2, 3), (1, 1, 1, 0)]:
            self.assertIs(shows_resisting(FOUR_RING, places), False)

    def test_others(self):
        for value in NO_VALUES + WRONG_MAPS[1:]:
            for house in (FOUR_RING, ONE_HALL, (2, ((1, 0),)), EIGHT_HALLS):
                with self.subTest(house=house, value=value):
                    self.assertIs(shows_resisting(house, value), False)
        three = (3, ((0, 1, 2),))
        self.assertIs(shows_resisting(three, (0, 0, 2)), True)
        for value in WRONG_MAPS + [(False, 0, 2), (0, False, 2), [0, 0, 2], (0, 0, 2, 2), (0, 0), ((0, 0, 2),)]:
            self.assertIs(shows_resisting(three, value), False)

    def test_six_letters(self):
        for house in SIX_LETTERS:
            self.assertIs(shows_resisting(house, (0, 1, 2, 3, 0, 1, 2, 3)), True)
            self.assertIs(shows_resisting(house, tuple(range(7)) + (0,)), False)


class ShowsGroupBar(unittest.TestCase):
    def test_any_such_value(self):
        for clique, numbers in itertools.product(RING, [(0, 1, 0, 1), (1, 0, 1, 0)]):
            self.assertIs(shows_group_bar(FOUR_RING, (RING, clique, numbers)), True)
        for clique, numbers in itertools.product(DIAGONALS, [(0, 0, 1, 1), (1, 0, 0, 1)]):
            self.assertIs(shows_group_bar(FOUR_RING, (DIAGONALS, clique, numbers)), True)

    def test_wrong_nets(self):
        nets = WRONG_NETS + [(), ((0, 2),), ((0, 1), (1, 2), (2, 3)), RING[::-1], list(RING), RING + ((0, 4),)]
        for net in nets:
            with self.subTest(net=net):
                self.assertIs(shows_group_bar(FOUR_RING, (net, (0, 1), (0, 1, 0, 1))), False)
                self.assertIs(shows_group_bar(FOUR_RING, (net, (0, 2), (0, 0, 1, 1))), False)

    def test_the_whole_net(self):
        for house in [FOUR_RING, *GROUPS]:
            halls = tuple(range(house[0]))
            self.assertIs(shows_group_bar(house, (whole(house[0]), halls, halls)), False)

    def test_wrong_cliques(self):
        for clique in WRONG_CLIQUES:
            with self.subTest(clique=clique):
                self.assertIs(shows_group_bar(FOUR_RING, (RING, clique, (0, 1, 0, 1))), False)

    def test_wrong_colours(self):
        for numbers in WRONG_COLOURS:
            with self.subTest(numbers=numbers):
                self.assertIs(shows_group_bar(FOUR_RING, (RING, (0, 1), numbers)), False)

    def test_no_triples(self):
        right = (RING, (0, 1), (0, 1, 0, 1))
        for value in NO_VALUES + [list(right), right[:2], right + (0,), (right,), right[::-1], RING]:
            for house in (FOUR_RING, ONE_HALL, FIVE_RING, EIGHT_HALLS):
                with self.subTest(house=house, value=value):
                    self.assertIs(shows_group_bar(house, value), False)

    def test_held_against_all_triples(self):
        for house in [(3, ((0, 1, 2),)), (3, ((1, 0, 2),)), (3, ((1, 2, 0),)), (2, ((1, 0),)), ONE_HALL]:
            halls = house[0]
            tuples = list(itertools.product(range(-1, halls + 1), repeat=halls))
            right = 0
            for value in itertools.product(nets_of(halls), [()] + lots_of(halls), tuples):
                answer = shows_group_bar(house, value)
                self.assertIs(answer, value[0] != whole(halls) and may_bar(house, value), msg=(house, value))
                right += answer
            self.assertIs(right == 0, resets_all(house))


class TooManyNets(RaisingCase):
    def test_the_functions_that_raise_it(self):
        for house in WITH_MORE_NETS:
            for function in OF_TURNS[1:]:
                self.raises({"most": 4096}, TooMany, function, house)
            for function in SHOWING:
                self.raises({"most": 4096}, TooMany, function, house, None)

    def test_pair_lots_never_does(self):
        self.assertEqual([len(pair_lots(house)) for house in WITH_MORE_NETS], [15, 13, 16, 28])

    def test_other_values_never_do(self):
        net, numbers = ((0, 1),), (0, 1, 0, 0, 0, 0)
        six = (6, ((0, 1, 2, 3, 4, 5),))
        self.assertIs(shows_group_bar(six, (net, (0, 1), numbers)), True)
        self.assertIs(shows_group_bar(six, (net, (0, 2), numbers)), False)
        self.assertIs(shows_resisting(six, (0, 0, 2, 3, 4, 5)), True)
        for house, value, function in itertools.product(WITH_MORE_NETS, NO_VALUES, SHOWING):
            self.assertIs(function(house, value), False)


class Errors(RaisingCase):
    def test_houses_that_are_wrong_or_not_of_turns(self):
        for function in OF_TURNS:
            self.takes_turns_alone(function)
        for function, last in itertools.product(SHOWING, [None, (0, 0), *NO_VALUES]):
            self.takes_turns_alone(function, last)

    def test_wrong_houses(self):
        for value, part in WRONG_HOUSES:
            with self.subTest(value=value):
                self.raises({"part": part}, BadHouse, resets_with, value, (0, 0, 0))

    def test_wrong_maps(self):
        for value in WRONG_MAPS:
            with self.subTest(value=value):
                self.raises({}, BadMap, resets_with, HOUSE, value)
                self.raises({}, BadMap, resets_with, (3, ((0, 1, 2),)), value)
        self.raises({}, BadMap, resets_with, ONE_HALL, (1,))
        self.raises({}, BadMap, resets_with, EIGHT_HALLS, (8,) * 8)
        self.raises({}, BadMap, resets_with, EIGHT_HALLS, (0,) * 7)

    def test_the_leftmost_of_several(self):
        for (value, part), places in itertools.product(WRONG_HOUSES, WRONG_MAPS):
            self.raises({"part": part}, BadHouse, resets_with, value, places)

    def test_equal_answers_for_equal_arguments(self):
        for house in GROUPS + WITH_4096_NETS[:1]:
            again = (house[0], tuple(tuple(list(places)) for places in house[1]))
            for function in (pair_lots, kept_nets, barring_nets, resets_all):
                self.assertEqual(function(house), function(again))

    def test_arguments_are_not_modified(self):
        for house, value in [([4, [[1, 2, 3, 0]]], [[], [1, 0]]), (FOUR_RING, [0, 0, 2, 2]), (FOUR_RING, None),
                             (FOUR_RING, ([(1, 2)], [1, 0], {0: [1]})), (FOUR_RING, (0, 0, 2, 2))]:
            for function in OF_TURNS:
                self.leaves(function, house)
            for function in (*SHOWING, resets_with):
                self.leaves(function, house, value)


if __name__ == "__main__":
    unittest.main()
