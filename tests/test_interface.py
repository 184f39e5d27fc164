"""The names and arguments of the interface, each defined in the file that lists it."""

import importlib
import inspect
import unittest

ARGUMENTS = {
    "houses": {"is_house": ["value"], "led": ["house", "lot", "row"], "map_of": ["house", "row"]},
    "calls": {
        "reset": ["house"], "has_reset": ["house"], "resets_to": ["house"], "lots": ["house"],
        "rank": ["house"], "fewest_row": ["house"], "homing": ["house", "lot"],
        "meeting": ["house", "one", "other"],
    },
    "errors": {
        "BadHouse": ["part"], "BadRow": ["index"], "BadLine": ["line", "word"], "TooMany": ["most"],
    },
}


class Interface(unittest.TestCase):
    def test_each_stands_in_its_file_with_its_arguments(self):
        for file, names in ARGUMENTS.items():
            module = importlib.import_module(f"resetcalls.{file}")
            for name, arguments in names.items():
                with self.subTest(name=name):
                    value = getattr(module, name)
                    self.assertEqual(value.__module__, f"resetcalls.{file}")
                    self.assertEqual(list(inspect.signature(value).parameters), arguments)


if __name__ == "__main__":
    unittest.main()
