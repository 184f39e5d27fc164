"""What the tests of wrong arguments share."""

import copy
import unittest


class RaisingCase(unittest.TestCase):
    def raises(self, fields, error, function, *arguments):
        """Hold that a call raises just this error, with these fields and no others."""
        with self.assertRaises(error, msg=repr(arguments)) as caught:
            function(*arguments)
        self.assertIs(type(caught.exception), error)
        self.assertEqual(vars(caught.exception), fields, msg=repr(arguments))

    def leaves(self, function, *arguments):
        """Hold that a call leaves its arguments as they were, whether it raises or not."""
        before = copy.deepcopy(arguments)
        try:
            function(*arguments)
        except ValueError:
            pass
        self.assertEqual(arguments, before)
