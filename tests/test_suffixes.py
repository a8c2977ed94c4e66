"""The rows of a list of numbers: point 12, and what of point 1 reaches them."""

import inspect
import itertools
import random
import unittest

from homereads import suffixes
from homereads.suffixes import suffix_rows

MOST = 1000000000
LONGEST = 200000


def sorted_suffixes(numbers):
    """The rows by a plain sort of all suffixes."""
    return sorted(range(len(numbers)), key=lambda start: numbers[start:])


class SuffixRowsTest(unittest.TestCase):
    def check(self, numbers):
        rows = suffix_rows(numbers)
        self.assertEqual(rows, sorted_suffixes(numbers))
        self.assertIs(type(rows), list)

    def check_with_ends(self, numbers):
        self.check(numbers)
        self.check(numbers + [0])
        self.check([number + 1 for number in numbers] + [0])

    def test_example(self):
        self.assertEqual(suffix_rows([2, 3, 2, 0]), [3, 2, 0, 1])

    def test_empty_list(self):
        rows = suffix_rows([])
        self.assertEqual(rows, [])
        self.assertIs(type(rows), list)

    def test_one_integer(self):
        for number in (0, 1, 7, MOST):
            self.assertEqual(suffix_rows([number]), [0])

    def test_by_hand(self):
        # A suffix that is the beginning of another one comes first.
        self.assertEqual(suffix_rows([0, 0, 0]), [2, 1, 0])
        self.assertEqual(suffix_rows([1, 0, 1]), [1, 2, 0])
        self.assertEqual(suffix_rows([0, 1, 0]), [2, 0, 1])
        self.assertEqual(suffix_rows([9, 10, 9]), [2, 0, 1])
        # banana
        self.assertEqual(suffix_rows([1, 0, 2, 0, 2, 0]), [5, 3, 1, 0, 4, 2])

    def test_each_short_list(self):
        for length in range(8):
            for numbers in itertools.product((0, 1, 2), repeat=length):
                self.check(list(numbers))

    def test_all_alike(self):
        for length in (2, 3, 4, 7, 8, 9, 31, 32, 33, 300):
            for number in (0, 1, 5, MOST):
                self.check_with_ends([number] * length)

    def test_rising_and_falling(self):
        for length in (2, 3, 8, 255, 256, 257, 300):
            self.check_with_ends(list(range(length)))
            self.check_with_ends(list(range(length))[::-1])
            self.check_with_ends([MOST - number for number in range(length)])
            self.check_with_ends([number * 3333333 for number in range(length)])

    def test_repeated_parts(self):
        for part in ([2, 3], [3, 2], [1, 1, 2], [2, 1, 1], [5, 4, 3, 2], [0, 1], [0, 0, 1], [MOST, 0, 7]):
            for times in (1, 2, 3, 16, 17, 100):
                self.check_with_ends(part * times)
                self.check_with_ends(part * times + part[:1])
                self.check_with_ends([9] + part * times)
                self.check_with_ends(part * times + [9] + part * times)

    def test_fibonacci_parts(self):
        first, second = [2], [2, 3]
        while len(second) < 500:
            first, second = second, second + first
        self.check_with_ends(second)

    def test_large_integers(self):
        source = random.Random(12)
        self.check_with_ends([MOST, 0, MOST - 1, MOST, 0, MOST, MOST])
        for _ in range(50):
            self.check_with_ends([source.randrange(MOST + 1) for _ in range(100)])
            self.check_with_ends([MOST - source.randrange(2) for _ in range(100)])
            self.check([MOST + source.randrange(3) for _ in range(100)])

    def test_random_lists(self):
        source = random.Random(13)
        for _ in range(300):
            most = source.choice([1, 2, 4, 6, 100])
            self.check_with_ends([source.randint(0, most) for _ in range(source.randrange(120))])
        for _ in range(20):
            self.check_with_ends([source.randint(2, 6) for _ in range(700)])

    def check_long(self, numbers):
        """The rows are all starts, and each one is less than the next one, by its first number and what follows."""
        self.assertEqual(len(numbers), LONGEST)
        rows = suffix_rows(numbers)
        self.assertEqual(sorted(rows), list(range(LONGEST)))
        row_of = [0] * LONGEST + [-1]
        for row, start in enumerate(rows):
            row_of[start] = row
        keys = [(numbers[start], row_of[start + 1]) for start in rows]
        self.assertTrue(all(one < other for one, other in zip(keys, keys[1:])))

    def test_longest_lists(self):
        source = random.Random(14)
        letters = source.choices([2, 3, 4, 5], k=LONGEST // 2 - 1)
        self.assertEqual(suffix_rows([7] * LONGEST), list(range(LONGEST))[::-1])
        self.check_long([5] * (LONGEST - 1) + [0])
        self.check_long([5] * (LONGEST - 1) + [6])
        self.check_long(letters + [1] + letters + [0])
        self.check_long([2, 3] * (LONGEST // 2))
        self.check_long([source.randrange(MOST + 1) for _ in range(LONGEST)])
        self.check_long([source.randrange(7) for _ in range(LONGEST)])

    def test_lists_stay(self):
        for numbers in ([], [3], [2, 3, 2, 0], [1] * 50, [5, 4] * 20):
            before = list(numbers)
            rows = suffix_rows(numbers)
            self.assertEqual(numbers, before)
            rows.append(1)
            self.assertEqual(suffix_rows(numbers), rows[:-1])


class InterfaceTest(unittest.TestCase):
    def test_names_and_arguments(self):
        self.assertEqual(suffix_rows.__module__, suffixes.__name__)
        self.assertEqual(list(inspect.signature(suffix_rows).parameters), ["numbers"])


if __name__ == "__main__":
    unittest.main()
