"""What tests of several modules ask alike."""

import unittest

from laytogether.errors import TooMany


class HowManyCase(unittest.TestCase):
    """Tests of how much is allowed."""

    def too_many(self, told, *given, most=3000):
        with self.assertRaises(TooMany) as caught:
            told(*given)
        self.assertEqual(caught.exception.most, most)
