"""How the tests go through a script step by step."""

import copy
import unittest

from oncecoin.scripts import next_step
from tests.helper import kinds


def ask(house, *requests):
    """An ask with requests that are given as texts for see, own and add, and with how many for take."""
    return ("ask", house, tuple([(key, mode, 0) if isinstance(mode, str) else (key, "take", mode)
                                 for key, mode in requests]))


def refused(word):
    return ("done", (), ("refused", word))


class ScriptCase(unittest.TestCase):

    def goes(self, deed_id, deed, rows, end):
        """Checks that the deed makes these asks, is told these answers, and ends so: rows are pairs of both."""
        told = [answers for _, answers in rows]
        expected = [step for step, _ in rows] + [end]
        for many, step in enumerate(expected):
            for make in (tuple, list):
                passed = make(told[:many])
                before = copy.deepcopy(passed)
                found = next_step(deed_id, deed, passed)
                self.assertEqual(kinds(found), kinds(step), (deed_id, deed, passed))
                self.assertEqual(kinds(passed), kinds(before), "what was told stays as it was")
                self.assertEqual(next_step(deed_id, deed, passed), found, "equal calls give equal results")

    def refuses(self, deed_id, deed, rows, word):
        self.goes(deed_id, deed, rows, refused(word))
