"""Distances: points 18 and 19, and what of point 1 reaches them."""

import inspect
import itertools
import random
import unittest

from homereads import distance as module
from homereads.distance import distance, ends

from plain import random_text
from plain_changes import distances_by_begins, distances_by_columns, plain_distance

SHORT_TEXTS = ["".join(letters) for length in range(4) for letters in itertools.product("ACN", repeat=length)]


def changed(source, text, many):
    """A text with so many changes, some of which may undo one another."""
    letters = list(text)
    for _ in range(many):
        at = source.randrange(len(letters) + 1)
        letters[at:at + source.randrange(2)] = source.choice(["", "A", "C", "G", "T", "N"])
    return "".join(letters)


class DistanceTest(unittest.TestCase):
    def test_by_hand(self):
        cases = [
            ("", "", 0),
            ("", "A", 1), ("A", "", 1), ("", "NNNNN", 5), ("ACGTN", "", 5),
            ("A", "A", 0), ("ACGT", "ACGT", 0), ("TTTTTTTTTT", "TTTTTTTTTT", 0),
            ("A", "C", 1), ("ACGT", "AGGT", 1), ("ACGT", "TGCA", 4),
            # `N` agrees with nothing, not even with `N`.
            ("N", "N", 1), ("A", "N", 1), ("N", "A", 1), ("NNN", "NNN", 3), ("ANGT", "ANGT", 1), ("ANNT", "ACGT", 2),
            # One letter of the read, or of the text, is left out.
            ("ACGT", "ACT", 1), ("ACT", "ACGT", 1), ("ACGT", "CGT", 1), ("CGT", "ACGT", 1), ("ACGT", "ACG", 1),
            ("AAAA", "A", 3), ("A", "AAAA", 3), ("ACGTACGT", "CGTACGTA", 2), ("ACGT", "AGTT", 2),
        ]
        for read, text, expected in cases:
            with self.subTest(read=read, text=text):
                self.assertEqual(distance(read, text), expected)
                self.assertIs(type(distance(read, text)), int)

    def test_each_pair_of_short_texts(self):
        for read, text in itertools.product(SHORT_TEXTS, repeat=2):
            self.assertEqual(distance(read, text), plain_distance(read, text), (read, text))

    def test_drawn_pairs(self):
        source = random.Random(31)
        for _ in range(1500):
            letters = source.choice(["AC", "ACGT", "ACGTN", "AN", "A"])
            read = random_text(source, source.randrange(25), letters)
            text = random_text(source, source.randrange(25), letters)
            self.assertEqual(distance(read, text), plain_distance(read, text), (read, text))

    def test_around_the_sizes_of_words(self):
        source = random.Random(32)
        for length in (29, 30, 31, 32, 59, 60, 61, 63, 64, 65, 127, 128, 129, 300):
            for many in (0, 1, 5, 30):
                read = random_text(source, length, "ACGT" * 10 + "N")
                text = changed(source, read, many)
                self.assertEqual(distance(read, text), plain_distance(read, text), (read, text))
                self.assertEqual(distance(text, read), plain_distance(read, text), (read, text))

    def test_longest_texts(self):
        source = random.Random(33)
        read = random_text(source, 100000)
        letters = list(read)
        for at in range(5000, 100000, 10000):
            letters[at] = "N"
        self.assertEqual(distance(read, "".join(letters)), 10)
        # Each `G` is replaced or left out, and no other letter can be paired with one that agrees.
        self.assertEqual(distance("A" * 100000, "G" * 99999), 100000)
        self.assertEqual(distance("A" * 100000, ""), 100000)
        self.assertEqual(distance("", "N" * 100000), 100000)
        long = "A" * 50000 + "C" + "T" * 49999
        for short, expected in [("AC", 99998), ("CA", 99999), ("G", 100000), ("N", 100000), ("T", 99999)]:
            self.assertEqual((distance(short, long), distance(long, short)), (expected, expected))


class EndsTest(unittest.TestCase):
    def check(self, read, text, k, distances):
        found = ends(read, text, k)
        expected = [(end, changes) for end, changes in enumerate(distances) if changes <= k]
        self.assertEqual(found, expected, (read, text, k))
        self.assertIs(type(found), list)
        self.assertEqual({type(each) for each in found} - {tuple}, set())

    def test_example(self):
        self.assertEqual((distance("ACGT", "AGTT"), ends("ACG", "TACTG", 1)), (2, [(3, 1), (4, 1), (5, 1)]))

    def test_by_hand(self):
        cases = [
            ("A", "", 0, []), ("A", "", 1, [(0, 1)]), ("ACG", "", 2, []), ("ACG", "", 3, [(0, 3)]),
            ("A", "A", 0, [(1, 0)]), ("A", "A", 1, [(0, 1), (1, 0)]), ("A", "C", 0, []),
            ("ACG", "ACGACG", 0, [(3, 0), (6, 0)]), ("AA", "AAAA", 0, [(2, 0), (3, 0), (4, 0)]),
            ("ACG", "TTACGTT", 0, [(5, 0)]), ("ACG", "TTACGTT", 1, [(4, 1), (5, 0), (6, 1)]),
            ("N", "N", 0, []), ("N", "NA", 1, [(0, 1), (1, 1), (2, 1)]),
            ("ANG", "ANG", 0, []), ("ANG", "ANG", 1, [(3, 1)]),
            ("ACGTACGT", "AC", 5, []), ("ACGTACGT", "AC", 6, [(2, 6)]),
        ]
        for read, text, k, expected in cases:
            with self.subTest(read=read, text=text, k=k):
                self.assertEqual(ends(read, text, k), expected)

    def test_short_texts(self):
        for read, text in itertools.product(SHORT_TEXTS[1:], SHORT_TEXTS):
            distances = distances_by_begins(read, text)
            for k in range(5):
                self.check(read, text, k, distances)

    def test_drawn_pairs(self):
        source = random.Random(34)
        for _ in range(400):
            letters = source.choice(["AC", "ACGT", "ACGTN", "AN", "A"])
            read = random_text(source, source.randint(1, 12), letters)
            text = random_text(source, source.randrange(16), letters)
            distances = distances_by_begins(read, text)
            self.assertEqual(distances_by_columns(read, text), distances)
            for k in (0, 1, 2, len(read) - 1, len(read), len(read) + 1, 50):
                self.check(read, text, k, distances)

    def test_many_changes_hold_at_each_end(self):
        for k in (4, 5, 50):
            self.assertEqual([end for end, _ in ends("ACGT", "GATTACA", k)], list(range(8)))
            self.assertEqual(ends("ACGT", "GATTACA", k)[0], (0, 4))

    def test_long_reads(self):
        source = random.Random(35)
        for length in (29, 30, 31, 63, 64, 65, 66, 127, 128, 129, 250):
            text = random_text(source, 400, "ACGT" * 10 + "N")
            begin = source.randrange(400 - length)
            read = changed(source, text[begin:begin + length], 6)
            distances = distances_by_columns(read, text)
            self.assertLessEqual(min(distances), 13)
            for k in (0, 5, 13, 50, length):
                self.check(read, text, k, distances)

    def test_longest_read(self):
        source = random.Random(36)
        text = random_text(source, 3000)
        read = text[1200:1700] + "N" + text[1700:2000] + "N" + text[2002:2200]
        self.assertEqual(len(read), 1000)
        found = ends(read, text, 50)
        self.assertEqual(min((changes, end) for end, changes in found), (3, 2200))
        self.check(read, text[1000:2300], 50, distances_by_columns(read, text[1000:2300]))

    def test_longest_text(self):
        source = random.Random(37)
        text = random_text(source, 100000)
        read = text[70000:70600] + text[70601:71001]
        self.assertEqual([each for each in ends(read, text, 3) if each[1] < 2], [(71001, 1)])
        self.assertEqual(ends("A" * 1000, "A" * 100000, 0), [(end, 0) for end in range(1000, 100001)])

    def test_returned_lists_changed(self):
        expected = [(3, 1), (4, 1), (5, 1)]
        for _ in range(3):
            found = ends("ACG", "TACTG", 1)
            self.assertEqual(found, expected)
            found.reverse()
            found.clear()


class InterfaceTest(unittest.TestCase):
    def test_names_and_arguments(self):
        for function, arguments in [(distance, ["read", "text"]), (ends, ["read", "text", "k"])]:
            self.assertEqual(function.__module__, module.__name__)
            self.assertEqual(list(inspect.signature(function).parameters), arguments)


if __name__ == "__main__":
    unittest.main()
