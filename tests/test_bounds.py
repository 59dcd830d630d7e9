"""The interface's row for tieskept/bounds.py."""

import unittest

from tieskept import bounds

TOLD = {
    "MAX_LINES": 24,
    "MAX_WORDY": 10,
    "MAX_TAGGED": 7,
    "MAX_TOLD": 6,
    "MAX_GATES": 1000,
    "MAX_KEY": 1000000000000,
    "MAX_WORDS": 256,
    "MAX_TIMES": 1000000000000000000000000000000,
    "MAX_NAMES": 6,
    "BATCH": 8,
    "MAX_EDITS": 40,
}


class BoundsTest(unittest.TestCase):
    def test_each_constant_has_the_value_told(self):
        for name, value in TOLD.items():
            with self.subTest(name):
                self.assertIs(type(getattr(bounds, name)), int)
                self.assertEqual(getattr(bounds, name), value)


if __name__ == "__main__":
    unittest.main()
