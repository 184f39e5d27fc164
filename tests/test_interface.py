"""The names and arguments of the interface, each defined in the file that lists it."""

import importlib
import inspect
import unittest

from resetcalls.errors import BadMap
from resetcalls.groups import resets_with
from resetcalls.lost import Lost

ARGUMENTS = {
    "houses": {"is_house": ["value"], "led": ["house", "lot", "row"], "map_of": ["house", "row"]},
    "calls": {
        "reset": ["house"], "has_reset": ["house"], "resets_to": ["house"], "lots": ["house"],
        "rank": ["house"], "fewest_row": ["house"], "homing": ["house", "lot"],
        "meeting": ["house", "one", "other"],
    },
    "nets": {
        "keeps": ["house", "net"], "is_barring": ["halls", "net"], "greatest_clique": ["halls", "net"],
        "colours": ["halls", "net"], "least_colours": ["halls", "net"],
    },
    "bars": {"never_meet": ["house"], "bar": ["house"], "shows_bar": ["house", "value"]},
    "groups": {
        "pair_lots": ["house"], "kept_nets": ["house"], "barring_nets": ["house"], "resets_all": ["house"],
        "resisting": ["house"], "group_bar": ["house"], "shows_resisting": ["house", "value"],
        "shows_group_bar": ["house", "value"],
    },
    "partings": {
        "section": ["house"], "shows_section": ["house", "value"], "is_transitive": ["house"],
        "is_pairwise": ["house"], "is_primitive": ["house"], "kept_partings": ["house"],
    },
    "goods": {"count_resetting": ["house"], "resisting_maps": ["house"]},
    "lost": {"Lost": ["house", "lot"]},
    "calltexts": {
        "write_house": ["house"], "write_net": ["halls", "net"], "read_house": ["text"], "read_net": ["text"],
    },
    "errors": {
        "BadHouse": ["part"], "BadRow": ["index"], "BadLine": ["line", "word"], "TooMany": ["most"],
    },
}


class Interface(unittest.TestCase):
    def test_each_stands_in_its_file_with_its_arguments(self):
        for file, names in ARGUMENTS.items():
            module = importlib.import_module(f"resetcalls.{file}")
            for name, arguments in names.items():
                with self.subTest(name=name):
                    value = getattr(module, name)
                    self.assertEqual(value.__module__, f"resetcalls.{file}")
                    self.assertEqual(list(inspect.signature(value).parameters), arguments)

    def test_the_class_has_its_methods_itself(self):
        for name, arguments in {"call": ["self", "letter"], "undo": ["self"], "hint": ["self"]}.items():
            self.assertEqual(list(inspect.signature(vars(Lost)[name]).parameters), arguments)
        for name in ("possible", "row", "is_found"):
            self.assertIsInstance(vars(Lost)[name], property)

    def test_the_argument_that_has_a_builtins_name(self):
        self.assertEqual(resets_with.__module__, "resetcalls.groups")
        house = (4, ((1, 2, 3, 0),))
        for places, answer in [((0, 0, 2, 2), False), ((0, 0, 2, 3), True)]:
            self.assertIs(resets_with(house, places), answer)
            self.assertIs(resets_with(house, map=places), answer)
            self.assertIs(resets_with(map=places, house=house), answer)
        with self.assertRaises(BadMap):
            resets_with(house, map=(0, 0, 2))


if __name__ == "__main__":
    unittest.main()
