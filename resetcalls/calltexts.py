"""Texts of houses and of nets, written and read."""

from resetcalls.checks import MOST_HALLS, MOST_LETTERS, check_house, check_net, check_number_of_halls
from resetcalls.errors import BadLine, BadText


def halls_line(halls):
    """The line of the number of halls."""
    return f"halls {halls}"


def letter_line(places):
    """The line of a letter's map."""
    side_by_side = "".join([str(hall) for hall in places])
    return f"letter {side_by_side}"


def ties_line(one, others):
    """The line of a hall that is the lesser one of ties with others."""
    words = [str(one), "-"] + [str(other) for other in others]
    return " ".join(words)


def write_house(house):
    """The text of a house."""
    check_house(house)
    halls, maps = house
    return "\n".join([halls_line(halls)] + [letter_line(places) for places in maps])


def write_net(halls, net):
    """The text of a net."""
    check_number_of_halls(halls)
    check_net(halls, net)
    lessers = sorted({tie[0] for tie in net})
    lines = [ties_line(own, [other for one, other in net if one == own]) for own in lessers]
    return "\n".join([halls_line(halls)] + lines)


def check_text(value):
    """Raise BadText for what is no string."""
    if not isinstance(value, str):
        raise BadText()


def lines_with_words(text):
    """The lines that are not void: pairs of the line's number and its words."""
    lines = []
    for line, signs in enumerate(text.split("\n"), start=1):
        # Words are parted by spaces alone: any other blank is a sign that cannot stand.
        words = [word for word in signs.split(" ") if word != ""]
        if words != []:
            lines.append((line, words))
    return lines


def line_behind(text):
    """The number of lines and 1."""
    return len(text.split("\n")) + 1


def word_at(words, at):
    """The word at a place, the void one for a word that is lacking."""
    if at < len(words):
        return words[at]
    return ""


def figures(least, most):
    """The figures from the least to the most, the words of halls and of their number."""
    return [str(number) for number in range(least, most + 1)]


def require(right, line, word):
    """Raise BadLine for a word that is not right."""
    if not right:
        raise BadLine(line, word)


def read_halls(text, lines):
    """The number of halls that the first line tells."""
    require(lines != [], line_behind(text), 1)
    line, words = lines[0]
    require(words[0] == "halls", line, 1)
    require(word_at(words, 1) in figures(1, MOST_HALLS), line, 2)
    require(len(words) == 2, line, 3)
    return int(words[1])


def read_map(halls, line, words):
    """The map that a letter's line tells behind its first word."""
    signs = list(word_at(words, 1))
    known = figures(0, halls - 1)
    require(len(signs) == halls and all([sign in known for sign in signs]), line, 2)
    require(len(words) == 2, line, 3)
    return tuple([int(sign) for sign in signs])


def read_ties(halls, least, line, words):
    """The ties that a line tells whose first word is a hall from the least on."""
    require(words[0] in figures(least, halls - 1), line, 1)
    require(word_at(words, 1) == "-", line, 2)
    require(len(words) > 2, line, 3)
    one = int(words[0])
    ahead = one
    for place, word in enumerate(words[2:], start=3):
        require(word in figures(ahead + 1, halls - 1), line, place)
        ahead = int(word)
    return [(one, int(word)) for word in words[2:]]


def read_house(text):
    """The house that a text tells."""
    check_text(text)
    lines = lines_with_words(text)
    halls = read_halls(text, lines)
    maps = []
    for line, words in lines[1:]:
        require(words[0] == "letter" and len(maps) < MOST_LETTERS, line, 1)
        maps.append(read_map(halls, line, words))
    require(maps != [], line_behind(text), 1)
    return (halls, tuple(maps))


def read_net(text):
    """The pair (halls, net) that a text tells."""
    check_text(text)
    lines = lines_with_words(text)
    halls = read_halls(text, lines)
    ties = []
    least = 0
    for line, words in lines[1:]:
        ties.extend(read_ties(halls, least, line, words))
        least = int(words[0]) + 1
    return (halls, tuple(ties))
