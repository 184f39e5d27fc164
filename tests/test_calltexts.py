"""Texts of houses and of nets, written and read (point 10)."""

import itertools
import random
import unittest

from resetcalls.calltexts import read_house, read_net, write_house, write_net
from resetcalls.errors import BadHouse, BadLine, BadNet, BadNumber, BadText
from tests.cases import RaisingCase
from tests.right_texts import RightTexts, right_texts_of_houses, right_texts_of_nets
from tests.samples import (CUBE, EIGHT_AND_SIX, EIGHT_HALLS, FIVE, HOUSE, HOUSES, KNOWN_NETS, ONE_HALL, RING, WHEEL,
                           WRONG_HOUSES, WRONG_NETS, WRONG_NUMBERS, drawn_houses, drawn_nets, nets_of, small_houses,
                           whole)

READING = (read_house, read_net)
NO_STRINGS = [None, True, False, 0, 1, -1, 10 ** 30, (), ("halls 1",), [], ["halls 1", "letter 0"], {}, {"halls": 1},
              (1, ((0,),)), (1, ())]

HOUSE_TEXT = "halls 3\nletter 120\nletter 002"
NET_TEXT = "halls 4\n0 - 1 3\n1 - 2\n2 - 3"

# Texts that are wrong as those of a house and of a net alike, with the line and the word.
WRONG_FIRST_LINES = [
    # The line of halls is lacking.
    ("", 2, 1), (" ", 2, 1), ("\n", 3, 1), ("  \n\n   ", 4, 1), ("\n" * 10, 12, 1),
    # The first word isn't `halls`.
    ("hall 3", 1, 1), ("Halls 3", 1, 1), ("HALLS 3", 1, 1), ("halls3", 1, 1), ("3", 1, 1), ("3 halls", 1, 1),
    ("-", 1, 1), ("halls: 3", 1, 1), ("letter 0", 1, 1), ("letter", 1, 1), ("0 - 1", 1, 1), ("\n\n letter 0", 3, 1),
    ("x\nhalls 3", 1, 1), ("\thalls 3", 1, 1), ("halls\t3", 1, 1), ("halls\r\nhalls 3", 1, 1), ("\r\nhalls 3", 1, 1),
    ("\r\rhalls 3", 1, 1), ("\x0c\nhalls 3", 1, 1), ("\xa0halls 3", 1, 1), ("\u2028halls 3", 1, 1),
    ("halls,3", 1, 1), ("letter 0\nhalls 9", 1, 1), ("hallsletter", 1, 1),
    # The number of halls is lacking, or no figure from 1 to 8.
    ("halls", 1, 2), ("  halls  ", 1, 2), ("\nhalls\n3", 2, 2), ("halls\nletter 0", 1, 2), ("halls 0", 1, 2),
    ("halls 9", 1, 2), ("halls 10", 1, 2), ("halls 11", 1, 2), ("halls 12", 1, 2), ("halls 78", 1, 2),
    ("halls 03", 1, 2), ("halls 3.0", 1, 2), ("halls +3", 1, 2), ("halls -3", 1, 2), ("halls three", 1, 2),
    ("halls 3,", 1, 2), ("halls 3\t", 1, 2), ("halls 3\r\nletter 012", 1, 2), ("halls \t3", 1, 2), ("halls -", 1, 2),
    ("halls halls 3", 1, 2), ("halls \u0663", 1, 2), ("halls \xb3", 1, 2), ("halls \uff13", 1, 2), ("halls 3_", 1, 2),
    ("halls 9 3", 1, 2), ("halls 9\nx", 1, 2), ("halls '3'", 1, 2), ("halls True", 1, 2),
    # A third word.
    ("halls 3 4", 1, 3), ("halls 3 letter 012", 1, 3), ("halls 3 -", 1, 3), (" halls  3  3 ", 1, 3),
    ("\n \nhalls 3 x y z", 3, 3), ("halls 3 \t", 1, 3), ("halls 3 9\nx", 1, 3),
]

WRONG_HOUSE_TEXTS = WRONG_FIRST_LINES + [
    # The house lacks a letter.
    ("halls 3", 2, 1), ("halls 3\n", 3, 1), ("\nhalls 3", 3, 1), ("\n\n halls 1 \n \n  \n", 7, 1),
    # The first word isn't `letter`.
    ("halls 3\nhalls 3", 2, 1), ("halls 3\n012", 2, 1), ("halls 3\nletters 012", 2, 1), ("halls 3\nLetter 012", 2, 1),
    ("halls 3\nletter012", 2, 1), ("halls 3\n0 - 1", 2, 1), ("halls 3\n-", 2, 1), ("halls 3\nletter 012\nx", 3, 1),
    ("halls 3\nletter 012\nhalls 3", 3, 1), ("halls 3\n\n \nlet ter 012", 4, 1), ("halls 3\n\tletter 012", 2, 1),
    ("halls 3\nx letter 012", 2, 1), ("halls 3\nhalls", 2, 1), ("halls 3\nletter\t012", 2, 1),
    # The seventh letter's.
    ("halls 1" + "\nletter 0" * 7, 8, 1), ("halls 1" + "\n\nletter 0" * 7, 15, 1),
    ("halls 2" + "\nletter 01" * 6 + "\nletter", 8, 1), ("halls 2" + "\nletter 01" * 6 + "\nletter 9 9", 8, 1),
    ("halls 2" + "\nletter 01" * 6 + "\n\n  \n letter 01\nx", 10, 1), ("halls 2" + "\nletter 01" * 6 + "\nx", 8, 1),
    # The map is lacking, or is none.
    ("halls 3\nletter", 2, 2), ("halls 3\n  letter  \n", 2, 2), ("halls 3\nletter\n012", 2, 2),
    ("halls 3\nletter 01", 2, 2), ("halls 3\nletter 0121", 2, 2), ("halls 3\nletter 0", 2, 2),
    ("halls 3\nletter 013", 2, 2), ("halls 3\nletter 312", 2, 2), ("halls 3\nletter 0-1", 2, 2),
    ("halls 3\nletter -01", 2, 2), ("halls 3\nletter 01x", 2, 2), ("halls 3\nletter 0,1,2", 2, 2),
    ("halls 3\nletter 0 1 2", 2, 2), ("halls 3\nletter letter", 2, 2), ("halls 3\nletter -", 2, 2),
    ("halls 3\nletter 01\u0662", 2, 2), ("halls 3\nletter 01\xb2", 2, 2), ("halls 3\nletter 012\t", 2, 2),
    ("halls 3\nletter 012\r\nletter 002", 2, 2), ("halls 3\nletter 012\r", 2, 2), ("halls 3\nletter +12", 2, 2),
    ("halls 1\nletter 1", 2, 2), ("halls 1\nletter 00", 2, 2), ("halls 2\nletter 02", 2, 2),
    ("halls 8\nletter 01234568", 2, 2), ("halls 8\nletter 0123456", 2, 2), ("halls 8\nletter 012345677", 2, 2),
    ("halls 2\nletter 01\nletter 2", 3, 2), ("halls 2\nletter 01\n\nletter", 4, 2), ("halls 2\nletter 2 1", 2, 2),
    ("halls 2\nletter 01\nletter 12\nletter 22\nx", 3, 2),
    # A third word.
    ("halls 3\nletter 012 0", 2, 3), ("halls 3\nletter 012 letter 012", 2, 3), ("halls 3\n letter  012  - ", 2, 3),
    ("halls 3\nletter 012\nletter 012 012", 3, 3), ("halls 3\nletter 012 \t", 2, 3), ("halls 3\nletter 012 3 4", 2, 3),
    ("halls 3\nletter 012 x\nx", 2, 3),
]

WRONG_NET_TEXTS = WRONG_FIRST_LINES + [
    # The first word isn't a hall.
    ("halls 3\nletter 012", 2, 1), ("halls 3\nhalls 3", 2, 1), ("halls 3\n3 - 4", 2, 1), ("halls 3\n3", 2, 1),
    ("halls 3\n-", 2, 1), ("halls 3\n-1 - 2", 2, 1), ("halls 3\n00 - 1", 2, 1), ("halls 3\n01 - 2", 2, 1),
    ("halls 3\n0-1", 2, 1), ("halls 3\n0- 1", 2, 1), ("halls 3\nx - 1", 2, 1), ("halls 3\n0, - 1", 2, 1),
    ("halls 8\n8 - 9", 2, 1), ("halls 8\n9", 2, 1), ("halls 1\n1 - 2", 2, 1), ("halls 3\n\t0 - 1", 2, 1),
    ("halls 3\n\u0660 - 1", 2, 1), ("halls 3\n\n\n+0 - 1", 4, 1), ("halls 3\n0\t- 1", 2, 1), ("halls 3\n10 - 2", 2, 1),
    # It isn't above that of the line ahead.
    ("halls 3\n0 - 1\n0 - 2", 3, 1), ("halls 3\n1 - 2\n0 - 1", 3, 1), ("halls 4\n0 - 1\n1 - 2\n1 - 3", 4, 1),
    ("halls 4\n0 - 1\n\n2 - 3\n1 - 2", 5, 1), ("halls 4\n1 - 3\n1", 3, 1), ("halls 3\n0 - 1\n0 - 1", 3, 1),
    ("halls 8\n6 - 7\n0 - 1", 3, 1), ("halls 3\n0 - 1\nx", 3, 1), ("halls 3\n0 - 1\n\n3 - 4", 4, 1),
    # `-` is lacking, or another word stands there.
    ("halls 3\n0", 2, 2), ("halls 3\n 0 \n", 2, 2), ("halls 3\n0\n- 1", 2, 2), ("halls 3\n0 1", 2, 2),
    ("halls 3\n0 -- 1", 2, 2), ("halls 3\n0 -1", 2, 2), ("halls 3\n0 : 1 2", 2, 2), ("halls 3\n0 \u2212 1", 2, 2),
    ("halls 3\n0 - 1\n1 2", 3, 2), ("halls 3\n0 - 1\n1", 3, 2), ("halls 3\n0 \t- 1", 2, 2), ("halls 3\n0 -\t1", 2, 2),
    ("halls 3\n2", 2, 2), ("halls 1\n0", 2, 2), ("halls 3\n2 1", 2, 2), ("halls 3\n0 1 - 2", 2, 2),
    # There is no hall behind `-`.
    ("halls 3\n0 -", 2, 3), ("halls 3\n0 - ", 2, 3), ("halls 3\n0 -\n1 - 2", 2, 3), ("halls 3\n0 - 1\n1 -", 3, 3),
    ("halls 3\n2 -", 2, 3), ("halls 1\n0 -", 2, 3), ("halls 3\n\n  1  -  \n\n", 3, 3),
    # A word behind it is no hall, or isn't above the ones ahead in the line.
    ("halls 3\n0 - 3", 2, 3), ("halls 3\n0 - x", 2, 3), ("halls 3\n0 - 12", 2, 3), ("halls 3\n0 - -", 2, 3),
    ("halls 3\n0 - 01", 2, 3), ("halls 3\n0 - 1,2", 2, 3), ("halls 3\n0 - \u0661", 2, 3), ("halls 3\n0 - 1\t", 2, 3),
    ("halls 3\n0 - 1\r", 2, 3), ("halls 3\n0 - 1\r\n1 - 2", 2, 3), ("halls 3\n0 - 0", 2, 3), ("halls 3\n1 - 0", 2, 3),
    ("halls 3\n1 - 1", 2, 3), ("halls 3\n2 - 1", 2, 3), ("halls 3\n2 - 2", 2, 3), ("halls 3\n2 - 3", 2, 3),
    ("halls 1\n0 - 0", 2, 3), ("halls 1\n0 - 1", 2, 3), ("halls 3\n0 - 0 1", 2, 3), ("halls 3\n0 - 1 1", 2, 4),
    ("halls 3\n0 - 2 1", 2, 4), ("halls 3\n0 - 1 0", 2, 4), ("halls 3\n0 - 1 3", 2, 4), ("halls 3\n0 - 1 -", 2, 4),
    ("halls 3\n0 - 1 2 2", 2, 5), ("halls 3\n0 - 1 2 3", 2, 5), ("halls 3\n0 - 1 2 x", 2, 5),
    ("halls 8\n0 - 1 2 3 4 5 6 7 8", 2, 10), ("halls 8\n0 - 1 2 3 4 5 6 7 7", 2, 10), ("halls 8\n0 - 7 8", 2, 4),
    ("halls 8\n0 - 1 2 3 4 5 7 6", 2, 9), ("halls 4\n0 - 1\n1 - 2\n2 - 1", 4, 3), ("halls 4\n1 - 3 2\n0", 2, 4),
]


class Examples(unittest.TestCase):
    def test_texts(self):
        self.assertEqual(
            [write_house((3, ((1, 2, 0), (0, 0, 2)))), write_net(3, ((0, 1), (0, 2))), read_net("halls 3\n1 - 2")],
            ['halls 3\nletter 120\nletter 002', 'halls 3\n0 - 1 2', (3, ((1, 2),))])

    def test_error(self):
        with self.assertRaises(BadLine) as caught:
            read_house("halls 2\nletter 02")
        self.assertEqual(vars(caught.exception), {"line": 2, "word": 2})


class Writing(unittest.TestCase):
    def test_houses(self):
        self.assertEqual(write_house(HOUSE), HOUSE_TEXT)
        self.assertEqual(write_house(ONE_HALL), "halls 1\nletter 0")
        self.assertEqual(write_house((1, ((0,),) * 6)), "halls 1" + "\nletter 0" * 6)
        self.assertEqual(write_house(EIGHT_AND_SIX), "\n".join([
            "halls 8", "letter 12345670", "letter 10234567", "letter 00234567", "letter 76543210",
            "letter 01234567", "letter 01224567"]))

    def test_nets(self):
        self.assertEqual(write_net(4, RING), NET_TEXT)
        self.assertEqual(write_net(1, ()), "halls 1")
        self.assertEqual(write_net(8, ()), "halls 8")
        self.assertEqual(write_net(2, ((0, 1),)), "halls 2\n0 - 1")
        self.assertEqual(write_net(8, ((0, 7), (6, 7))), "halls 8\n0 - 7\n6 - 7")
        self.assertEqual(write_net(5, FIVE), "halls 5\n0 - 1 4\n1 - 2\n2 - 3\n3 - 4")
        self.assertEqual(write_net(6, WHEEL), "halls 6\n0 - 1 4 5\n1 - 2 5\n2 - 3 5\n3 - 4 5\n4 - 5")
        self.assertEqual(write_net(8, CUBE),
                         "halls 8\n0 - 1 2 4\n1 - 3 5\n2 - 3 6\n3 - 7\n4 - 5 6\n5 - 7\n6 - 7")
        self.assertEqual(write_net(8, whole(8)), "\n".join([
            "halls 8", "0 - 1 2 3 4 5 6 7", "1 - 2 3 4 5 6 7", "2 - 3 4 5 6 7", "3 - 4 5 6 7", "4 - 5 6 7",
            "5 - 6 7", "6 - 7"]))


class Reading(unittest.TestCase):
    def test_by_hand(self):
        self.assertEqual(read_house(HOUSE_TEXT), HOUSE)
        self.assertEqual(read_net(NET_TEXT), (4, RING))
        self.assertEqual(read_house("halls 1\nletter 0"), ONE_HALL)
        self.assertEqual(read_house("halls 8\nletter 76543210"), (8, ((7, 6, 5, 4, 3, 2, 1, 0),)))
        self.assertEqual(read_net("halls 8"), (8, ()))
        self.assertEqual(read_net("halls 1"), (1, ()))
        self.assertEqual(read_net("halls 8\n6 - 7"), (8, ((6, 7),)))

    def test_just_six_letters(self):
        self.assertEqual(read_house("halls 2" + "\nletter 10" * 6), (2, ((1, 0),) * 6))

    def test_spaces(self):
        self.assertEqual(read_house("  halls   3 \n letter  120\nletter 002    "), HOUSE)
        self.assertEqual(read_net(" halls  4  \n  0   -  1    3  \n1 - 2 \n 2  - 3"), (4, RING))

    def test_void_lines(self):
        self.assertEqual(read_house("\n\nhalls 3\n\n \nletter 120\n   \nletter 002\n\n"), HOUSE)
        self.assertEqual(read_net("\n \nhalls 4\n\n0 - 1 3\n1 - 2\n   \n\n2 - 3\n"), (4, RING))
        self.assertEqual(read_net("\n\nhalls 2\n\n"), (2, ()))

    def test_kinds_of_what_is_read(self):
        halls, maps = read_house(HOUSE_TEXT)
        self.assertEqual({type(value) for value in (halls, *itertools.chain(*maps))}, {int})
        self.assertEqual({type(value) for value in (maps, *maps)}, {tuple})
        halls, net = read_net(NET_TEXT)
        self.assertEqual({type(value) for value in (halls, *itertools.chain(*net))}, {int})
        self.assertEqual({type(value) for value in (net, *net)}, {tuple})

    def test_houses_there_and_back(self):
        draw = random.Random(5)
        houses = HOUSES + small_houses() + drawn_houses(20, 8, 6, 3) + drawn_houses(20, 5, 2, 4)
        for house in houses:
            text = write_house(house)
            self.assertEqual(read_house(text), house)
            self.assertEqual(read_house(spread(draw, text)), house)

    def test_nets_there_and_back(self):
        draw = random.Random(6)
        nets = [(halls, net) for halls in range(1, 5) for net in nets_of(halls)]
        nets += [(8, net) for net in drawn_nets(60, 8, 7)] + [known[:2] for known in KNOWN_NETS]
        for halls, net in nets:
            text = write_net(halls, net)
            self.assertEqual(read_net(text), (halls, net))
            self.assertEqual(read_net(spread(draw, text)), (halls, net))


class WrongTexts(RaisingCase):
    def test_houses(self):
        for text, line, word in WRONG_HOUSE_TEXTS:
            with self.subTest(text=text):
                self.raises({"line": line, "word": word}, BadLine, read_house, text)

    def test_nets(self):
        for text, line, word in WRONG_NET_TEXTS:
            with self.subTest(text=text):
                self.raises({"line": line, "word": word}, BadLine, read_net, text)

    def test_void_lines_and_spaces_count_no_word_and_each_line(self):
        draw = random.Random(8)
        for read, texts in [(read_house, WRONG_HOUSE_TEXTS), (read_net, WRONG_NET_TEXTS)]:
            for text, line, word in texts:
                ahead = draw.randrange(4)
                self.raises({"line": line + ahead, "word": word}, BadLine, read, " \n" * ahead + text)
                self.raises({"line": line, "word": word}, BadLine, read, text.replace(" ", "   "))

    def test_houses_held_against_all_right_texts(self):
        words = ["letter", "0", "01", "11", "halls", "2"]
        for halls in (1, 2):
            rights = RightTexts(right_texts_of_houses(halls, 4))
            for text in texts_of(f"halls {halls}", words):
                self.holds(rights, read_house, text)

    def test_seven_letters_held_against_all_right_texts(self):
        rights = RightTexts(right_texts_of_houses(1, 6))
        for letters in range(1, 9):
            for behind in ("", "\nletter", "\nletter 0 0", "\n\n", "\n1", "\nletter 1"):
                self.holds(rights, read_house, "halls 1" + "\nletter 0" * letters + behind)

    def test_nets_held_against_all_right_texts(self):
        words = ["0", "1", "2", "3", "-"]
        for halls in (1, 2, 3):
            rights = RightTexts(right_texts_of_nets(halls))
            for text in texts_of(f"halls {halls}", words):
                self.holds(rights, read_net, text)

    def test_first_lines_held_against_all_right_texts(self):
        words = ["halls", "1", "2", "letter", "0", "-"]
        houses = RightTexts({**right_texts_of_houses(1, 2), **right_texts_of_houses(2, 2)})
        nets = RightTexts({**right_texts_of_nets(1), **right_texts_of_nets(2)})
        for text in texts_of("", words):
            self.holds(houses, read_house, text)
            self.holds(nets, read_net, text)

    def holds(self, rights, read, text):
        """Hold what is read, or the error's fields, against all right texts."""
        try:
            answer = read(text)
        except BadLine as error:
            answer = (error.line, error.word)
        self.assertEqual(answer, rights.read(text), msg=text)


class Errors(RaisingCase):
    def test_no_strings(self):
        for value in NO_STRINGS:
            for read in READING:
                with self.subTest(value=value):
                    self.raises({}, BadText, read, value)

    def test_wrong_houses(self):
        for value, part in WRONG_HOUSES:
            with self.subTest(value=value):
                self.raises({"part": part}, BadHouse, write_house, value)

    def test_wrong_numbers_of_halls(self):
        for value in WRONG_NUMBERS:
            with self.subTest(value=value):
                self.raises({}, BadNumber, write_net, value, ())

    def test_wrong_nets(self):
        for value in WRONG_NETS:
            with self.subTest(value=value):
                self.raises({}, BadNet, write_net, 3, value)
        self.raises({}, BadNet, write_net, 1, ((0, 1),))
        self.raises({}, BadNet, write_net, 8, ((7, 8),))

    def test_the_leftmost_of_several(self):
        for halls, net in itertools.product(WRONG_NUMBERS, WRONG_NETS):
            self.raises({}, BadNumber, write_net, halls, net)

    def test_equal_answers_for_equal_arguments(self):
        for house in HOUSES:
            self.assertEqual(write_house(house), write_house((house[0], tuple(map(tuple, map(list, house[1]))))))
        self.assertEqual(read_house(HOUSE_TEXT), read_house("".join(list(HOUSE_TEXT))))

    def test_arguments_are_not_modified(self):
        for value in ([3, [[1, 2, 0]]], {3: []}, HOUSE, EIGHT_HALLS):
            self.leaves(write_house, value)
            self.leaves(read_house, value)
            self.leaves(read_net, value)
        for halls, net in [(3, [(0, 2), (0, 1)]), (3, ([2, 0],)), ([3], ((0, 1),)), (3, ((0, 1),))]:
            self.leaves(write_net, halls, net)


def spread(draw, text):
    """A text with more spaces and void lines, which tells the same."""
    lines = []
    for line in text.split("\n"):
        lines += [" " * draw.randrange(3) for _ in range(draw.randrange(3))]
        words = [" " * draw.randrange(1, 4) + word for word in line.split(" ")]
        lines.append("".join(words)[draw.randrange(2):] + " " * draw.randrange(3))
    return "\n".join(lines + [" " * draw.randrange(3) for _ in range(draw.randrange(3))])


def texts_of(first, words):
    """All texts of a first line and at most four words, parted in each way by spaces and newlines."""
    for many in range(5):
        for told in itertools.product(words, repeat=many):
            for signs in itertools.product(" \n", repeat=many):
                yield first + "".join(sign + word for sign, word in zip(signs, told))


if __name__ == "__main__":
    unittest.main()
