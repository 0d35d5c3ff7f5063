"""The bounds of points 4, 5, 7, 11 and 12."""

import unittest

from pressrelease import bounds
from tests.support import Checks


class BoundsTest(Checks, unittest.TestCase):
    def test_values(self):
        self.same(bounds.MAX_BUTTONS, 10)
        self.same(bounds.MAX_ROW, 60)
        self.same(bounds.SMALL_BUTTONS, 7)
        self.same(bounds.MAX_EDITS, 60)
        self.same(bounds.BATCH, 20)
