"""Texts read in another way than the package does: by all the texts that are right."""

import itertools
import re

from tests.samples import maps_of, nets_of

LACKING = "a word is lacking"


class RightTexts:
    """All that may be told.

    `rights` has it: from tuples of lines, each a tuple of words, to the value
    that they tell, None if a line is lacking, LACKING if a word is.
    """

    def __init__(self, rights):
        self.rights = rights
        self.begun = {lines[:-1] + (lines[-1][:many],)
                      for lines in rights for many in range(1, len(lines[-1]) + 1)}

    def read(self, text):
        """What a text tells, or the line and the word of its fault."""
        lines = ()
        for line, signs in enumerate(text.split("\n"), start=1):
            words = tuple(re.findall("[^ ]+", signs))
            for word in range(1, len(words) + 1):
                if lines + (words[:word],) not in self.begun:
                    return (line, word)
            if words:
                lines += (words,)
                if self.rights.get(lines, LACKING) == LACKING:
                    return (line, len(words) + 1)
        if self.rights.get(lines) is None:
            return (text.count("\n") + 2, 1)
        return self.rights[lines]


def right_texts_of_houses(halls, most):
    """All that may be told of houses of so many halls and at most so many letters."""
    first = (("halls", str(halls)),)
    rights = {first: None}
    for letters in range(1, most + 1):
        for maps in itertools.product(maps_of(halls), repeat=letters):
            rights[first + tuple(("letter", "".join(map(str, places))) for places in maps)] = (halls, maps)
    return rights


def right_texts_of_nets(halls):
    """All that may be told of nets of so many halls."""
    rights = {}
    for net in nets_of(halls):
        lines = (("halls", str(halls)),)
        for one in range(halls):
            others = tuple(str(high) for low, high in net if low == one)
            if others:
                lines += ((str(one), "-") + others,)
        rights[lines] = (halls, net)
    # No hall is above the last one, but it is a hall: what is lacking in its line is the third word.
    last = (str(halls - 1), "-")
    return {**{lines + (last,): LACKING for lines in rights}, **rights}
