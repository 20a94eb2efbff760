"""The numbers of limits.py, and point 3."""

import unittest

from guestlives import limits

NUMBERS = {
    "FRAMES": 4, "CELLS": 16, "PAGES": 4, "ADDRESSES": 64, "NUMBERS": 256, "REGISTERS": 4, "PROCESSORS": 2,
    "FLAGS": 4, "READ": 4, "WRITE": 2, "EXECUTE": 1, "MOST_SLOTS": 8, "MOST_LONGEST": 8, "MOST_HOT": 8,
    "MOST_ACTIONS": 1000, "MOST_WRITES": 64,
}


class TestLimits(unittest.TestCase):
    def test_numbers(self):
        for name, number in NUMBERS.items():
            self.assertEqual(getattr(limits, name), number, name)
            self.assertIs(type(getattr(limits, name)), int, name)


if __name__ == "__main__":
    unittest.main()
