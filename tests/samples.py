"""Right and wrong arguments that several tests use."""

import itertools
import random

# The examples of the document.
HOUSE = (3, ((1, 2, 0), (0, 0, 2)))
THREE = (3, ((1, 0, 2), (0, 0, 2)))

ONE_HALL = (1, ((0,),))
EIGHT_HALLS = (8, (tuple(range(8)),))
EIGHT_AND_SIX = (8, ((1, 2, 3, 4, 5, 6, 7, 0), (1, 0, 2, 3, 4, 5, 6, 7),
                     (0, 0, 2, 3, 4, 5, 6, 7), (7, 6, 5, 4, 3, 2, 1, 0),
                     (0, 1, 2, 3, 4, 5, 6, 7), (0, 1, 2, 2, 4, 5, 6, 7)))

HOUSES = [
    HOUSE, THREE, ONE_HALL, EIGHT_HALLS, EIGHT_AND_SIX,
    (1, ((0,),) * 6),
    (2, ((0, 1), (0, 1))),
    (2, ((0, 0), (1, 1), (1, 0))),
    (4, ((1, 2, 3, 0), (0, 1, 2, 0))),
    (8, (tuple(range(1, 8)) + (0,),) * 6),
]

# A value, and the part that BadHouse names for it.
WRONG_HOUSES = [
    (None, "whole"), (True, "whole"), (False, "whole"), (3, "whole"), (0, "whole"),
    ("", "whole"), ("ab", "whole"), ((), "whole"), ((3,), "whole"), ((0,), "whole"),
    (HOUSE + (0,), "whole"), (HOUSE + ((),), "whole"), (list(HOUSE), "whole"),
    ([], "whole"), ({}, "whole"), ({3: 0, 4: 0}, "whole"), (HOUSE[1] + ((0, 0, 0),), "whole"),
    ((0, ((),)), "halls"), ((-1, ((),)), "halls"), ((9, (tuple(range(9)),)), "halls"),
    ((10 ** 30, ((0,),)), "halls"), ((True, ((0,),)), "halls"), ((False, ((),)), "halls"),
    ((None, ((0,),)), "halls"), (("1", ((0,),)), "halls"), (((1,), ((0,),)), "halls"),
    (([1], ((0,),)), "halls"), (({}, ((0,),)), "halls"), ((0, ()), "halls"), ((True, None), "halls"),
    (HOUSE[1], "halls"), ((HOUSE[1], 3), "halls"),
    ((2, None), "maps"), ((2, True), "maps"), ((2, 0), "maps"), ((2, "01"), "maps"),
    ((2, ()), "maps"), ((2, []), "maps"), ((2, [(0, 1)]), "maps"), ((2, {0: (0, 1)}), "maps"),
    ((2, {(0, 1): 0}), "maps"), ((2, (0, 1)), "maps"), ((2, ((0, 1),) * 7), "maps"),
    ((2, ((0,),)), "maps"), ((2, ((0, 1, 1),)), "maps"), ((2, ((),)), "maps"), ((1, ((),)), "maps"),
    ((2, ([0, 1],)), "maps"), ((2, ("01",)), "maps"), ((2, (None,)), "maps"), ((1, (True,)), "maps"),
    ((2, ({0: 1, 1: 0},)), "maps"), ((2, ((0, 2),)), "maps"), ((2, ((-1, 0),)), "maps"),
    ((2, ((True, 0),)), "maps"), ((2, ((1, False),)), "maps"), ((1, ((False,),)), "maps"),
    ((2, ((0, None),)), "maps"), ((2, ((0, "1"),)), "maps"), ((2, ((0, (1,)),)), "maps"),
    ((2, ((0, [1]),)), "maps"), ((2, ((0, 1), (0, 2))), "maps"), ((2, ((0, 1), (0,))), "maps"),
    ((2, ((0, 1), None)), "maps"), ((8, (tuple(range(7)),)), "maps"), ((8, (tuple(range(1, 9)),)), "maps"),
]

# For houses of three halls.
WRONG_HALLS = [None, True, False, -1, 3, 8, 10 ** 30, "", "0", (), (0,), [], [0], {}, {0: 0}]
WRONG_LOTS = [
    None, True, False, 0, 1, "", "01", (), [], [0], [0, 1], {}, {0: 1},
    (1, 0), (2, 0), (0, 0), (0, 1, 1), (0, 2, 1), (1, 0, 2), (0, 1, 2, 3), (3,), (0, 3), (-1,), (-1, 0),
    (True,), (False,), (0, True), (False, 1), (None,), (0, None), ("0",), (0, "1"), ((0,),), ([0],), (0, {}),
]

WRONG_NETS = [
    None, True, False, 0, 1, "", "01", [], [(0, 1)], {}, {(0, 1): True}, (0, 1), (0,), ("01",), (None,), (True,),
    ((),), ((0,),), ((0, 1, 2),), ((1, 0),), ((0, 0),), ((0, 3),), ((-1, 0),), ([0, 1],), ({0: 1},), (((0, 1),),),
    ((True, 2),), ((0, True),), ((False, 1),), ((False, True),), ((0, None),), ((0, "1"),), ((0, [1]),), ((0, (1,)),),
    ((0, 2), (0, 1)), ((0, 1), (0, 1)), ((0, 1), (1, 2), (0, 2)), ((0, 1), (2, 1)), ((0, 1), None), ((0, 1), (0, 3)),
    ((0, 1), [0, 2]), ((0, 1), 2), (((0, 1), (0, 2)),),
]
WRONG_MAPS = [
    None, True, False, 0, "", "012", (), [], [0, 0, 0], {}, {0: 0, 1: 0, 2: 0}, (0, 0), (0, 0, 0, 0), (0, 0, 3),
    (-1, 0, 0), (True, 0, 0), (0, False, 0), (0, 0, None), (0, 0, "0"), (0, 0, (0,)), (0, [0], 0), (0, {}, 0),
    ((0, 0, 0),), (10 ** 30, 0, 0),
]
WRONG_NUMBERS = [None, True, False, -1, 0, 9, 10 ** 30, "", "3", (), (3,), [], [3], {}, {3: 0}]

# A value for houses of two letters, and the index that BadRow names for it.
WRONG_ROWS = [
    (None, None), (True, None), (False, None), (0, None), (1, None), ("", None), ("01", None),
    ([], None), ([0], None), ([2], None), ({}, None), ({0: 1}, None),
    ((0,) * 101, None), ((2,) * 101, None), ((None,) * 101, None), ((0,) * 1000, None),
    ((2,), 0), ((-1,), 0), ((True,), 0), ((False,), 0), ((None,), 0), (("0",), 0), (((0,),), 0),
    (([0],), 0), (({},), 0), ((6,), 0), ((10 ** 30,), 0),
    ((0, 2), 1), ((0, 1, True), 2), ((1, 1, 0, False, 0), 3), ((0, 2, None), 1), ((1, 9, -1), 1),
    ((0,) * 99 + (2,), 99), ((1,) * 50 + (-1,) + (1,) * 49, 50),
]

# Nets with the number of halls, the greatest clique and the colours that are known of them.
RING = ((0, 1), (0, 3), (1, 2), (2, 3))
FIVE = ((0, 1), (0, 4), (1, 2), (2, 3), (3, 4))
WHEEL = ((0, 1), (0, 4), (0, 5), (1, 2), (1, 5), (2, 3), (2, 5), (3, 4), (3, 5), (4, 5))
CUBE = ((0, 1), (0, 2), (0, 4), (1, 3), (1, 5), (2, 3), (2, 6), (3, 7), (4, 5), (4, 6), (5, 7), (6, 7))
KNOWN_NETS = [
    (1, (), (0,), (0,)),
    (2, (), (0,), (0, 0)),
    (2, ((0, 1),), (0, 1), (0, 1)),
    (3, ((1, 2),), (1, 2), (0, 0, 1)),
    (3, ((0, 2), (1, 2)), (0, 2), (0, 0, 1)),
    (4, RING, (0, 1), (0, 1, 0, 1)),
    (5, FIVE, (0, 1), (0, 1, 0, 1, 2)),
    (6, WHEEL, (0, 1, 5), (0, 1, 0, 1, 2, 3)),
    (6, ((0, 3), (1, 2), (1, 4), (2, 4)), (1, 2, 4), (0, 0, 1, 1, 2, 0)),
    (8, (), (0,), (0,) * 8),
    (8, CUBE, (0, 1), (0, 1, 1, 0, 1, 0, 0, 1)),
    (8, ((6, 7),), (6, 7), (0, 0, 0, 0, 0, 0, 0, 1)),
]

# Houses with a letter that is no turn.
NOT_TURNS = [HOUSE, THREE, EIGHT_AND_SIX, (2, ((0, 0),)), (2, ((0, 1), (1, 1))), (2, ((1, 1), (0, 1))),
             (8, (tuple(range(8)),) * 5 + ((0,) + tuple(range(7)),))]

# Values that no function that begins with `shows` takes.
NO_VALUES = [True, False, 0, 1, "", "0022", (), [], {}, {0: 0}, (None,), [0, 0, 2, 2], ((), (), ()), "map"]

# Groups of turns.
FOUR_RING = (4, ((1, 2, 3, 0),))
FIVE_RING = (5, ((1, 2, 3, 4, 0),))
WITH_4096_NETS = [(7, ((1, 0, 3, 2, 5, 4, 6),)), (8, ((1, 0, 3, 2, 4, 5, 6, 7), (0, 1, 2, 3, 5, 4, 7, 6)))]
WITH_MORE_NETS = [(6, ((0, 1, 2, 3, 4, 5),)), (7, ((1, 0, 3, 2, 4, 5, 6),)), (8, ((1, 0, 3, 2, 5, 4, 7, 6),)),
                  (8, (tuple(range(8)),) * 6)]
# Groups with 97 and 112 kept partings: the nearest to 100 that were found.
WITH_97_PARTINGS = (7, ((1, 0, 3, 2, 4, 5, 6),))
WITH_112_PARTINGS = (8, ((0, 1, 2, 3, 5, 4, 7, 6), (0, 1, 2, 3, 6, 7, 4, 5)))
# Groups that lead each two halls, as a lot, to each.
PAIRWISE = [
    (2, ((1, 0),)), (3, ((1, 2, 0),)), (3, ((1, 2, 0), (1, 0, 2))), (4, ((1, 2, 0, 3), (1, 0, 3, 2))),
    (5, ((1, 2, 3, 4, 0), (0, 2, 4, 1, 3))), (5, ((1, 2, 3, 4, 0), (1, 0, 2, 3, 4))),
    (7, ((1, 2, 3, 4, 5, 6, 0), (0, 2, 4, 6, 1, 3, 5))), (8, ((1, 2, 3, 4, 5, 6, 7, 0), (1, 0, 2, 3, 4, 5, 6, 7))),
]
GROUPS = [
    (1, ((0,),)), (1, ((0,),) * 6), (2, ((0, 1),)), (3, ((0, 1, 2),)), (3, ((0, 2, 1),)), (4, ((0, 1, 2, 3),)),
    (4, ((1, 0, 3, 2), (2, 3, 0, 1))), (4, ((1, 2, 3, 0), (0, 3, 2, 1))), (4, ((1, 0, 2, 3), (0, 1, 3, 2))),
    (4, ((1, 2, 0, 3),)), (5, ((1, 2, 0, 4, 3),)), (5, ((1, 2, 3, 4, 0), (0, 4, 3, 2, 1))),
    FOUR_RING, FIVE_RING, *PAIRWISE,
]


def small_groups():
    """All houses of one hall to three with few turns, and those of four halls with one turn."""
    groups = [house for house in small_houses() if are_turns(house)]
    return groups + [(4, (places,)) for places in itertools.permutations(range(4))]


def are_turns(house):
    """Whether all letters of a house are one to one."""
    return all(sorted(places) == list(range(house[0])) for places in house[1])


def whole(halls):
    """The net of all ties."""
    return tuple(itertools.combinations(range(halls), 2))


def nets_of(halls):
    """All nets of so many halls."""
    nets = [()]
    for tie in whole(halls):
        nets += [net + (tie,) for net in nets]
    return nets


def drawn_nets(many, halls, seed):
    """Nets of so many halls, the same ones for the same seed."""
    draw = random.Random(seed)
    ties = whole(halls)
    return [tuple(sorted(draw.sample(ties, draw.randint(0, len(ties))))) for _ in range(many)]


def small_houses():
    """All houses of one hall, and those of two and three halls with few letters."""
    houses = [(1, ((0,),) * letters) for letters in range(1, 7)]
    for halls, most in ((2, 3), (3, 2)):
        letters = maps_of(halls)
        choices = [()]
        for _ in range(most):
            choices = [maps + (places,) for maps in choices for places in letters]
            houses.extend((halls, maps) for maps in choices)
    return houses


def maps_of(halls):
    """All maps of so many halls."""
    maps = [()]
    for _ in range(halls):
        maps = [places + (hall,) for places in maps for hall in range(halls)]
    return maps


def drawn_houses(many, halls, letters, seed):
    """Houses of so many halls and letters, the same ones for the same seed."""
    draw = random.Random(seed)
    return [(halls, tuple(tuple(draw.randrange(halls) for _ in range(halls)) for _ in range(letters)))
            for _ in range(many)]


def cerny_house(halls):
    """The house whose shortest reset has (halls - 1) ** 2 letters, as is known."""
    turn = tuple(range(1, halls)) + (0,)
    merge = tuple(range(halls - 1)) + (0,)
    return (halls, (turn, merge))


def lots_of(halls):
    """All lots of so many halls."""
    found = [()]
    for hall in range(halls):
        found += [lot + (hall,) for lot in found]
    return found[1:]
