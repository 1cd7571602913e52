"""The examples of the document, for the modules that are there."""

import unittest

from rightchance.shares import any_of, make_share


class TestExamples(unittest.TestCase):
    def test_shares(self):
        self.assertEqual((make_share(6, 8), any_of([(1, 2), (1, 2)])), ((3, 4), (3, 4)))


if __name__ == "__main__":
    unittest.main()
