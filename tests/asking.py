"""A test case that asks everything twice, and whether the things handed in stayed as they were."""

import copy
import unittest


class Asking(unittest.TestCase):
    def asked(self, function, *things):
        """What function tells, asked twice, nothing handed in being changed."""
        try:
            before = copy.deepcopy(things)
            shown = repr(before)
            comparable = repr(things) == shown
        except Exception:
            comparable = False
        first = function(*things)
        second = function(*things)
        self.assertEqual(repr(first), repr(second), function.__name__)
        if comparable:
            self.assertEqual(repr(things), shown)
        return first

    def holds(self, function, *things):
        self.assertIs(self.asked(function, *things), True, (function.__name__, things))

    def fails(self, function, *things):
        answer = self.asked(function, *things)
        self.assertIs(answer, False, function.__name__ + " of " + self.words(things))

    def words(self, things):
        try:
            return repr(things)
        except Exception:
            return "something that can't be shown"
