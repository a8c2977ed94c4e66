"""Numbers in byte lists, as points 9 and 16 have them."""

import unittest

from homereads.bytelists import number_at, number_bytes


class NumbersTest(unittest.TestCase):
    def test_by_hand(self):
        cases = [
            (0, 2, [0, 0]), (1, 2, [0, 1]), (255, 2, [0, 255]), (256, 2, [1, 0]), (65535, 2, [255, 255]),
            (0, 4, [0, 0, 0, 0]), (100000, 4, [0, 1, 134, 160]), (16909060, 4, [1, 2, 3, 4]),
            (2 ** 32 - 1, 4, [255, 255, 255, 255]),
        ]
        for number, size, expected in cases:
            with self.subTest(number=number, size=size):
                self.assertEqual(number_bytes(number, size), expected)
                self.assertEqual(number_at([9, 8] + expected + [7], 2, size), number)


if __name__ == "__main__":
    unittest.main()
