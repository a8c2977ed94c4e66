"""Hits and homes: points 20, 24 and 32, and what of point 1 reaches them."""

import copy
import inspect
import itertools
import random
import unittest

from homereads import hits as module
from homereads.hits import hits, homes
from homereads.index import Index

from plain import lists_of_references, random_text
from plain_changes import (
    BLOCKS_AND_SAMPLES, distances_by_begins, drawn_reads, plain_hits, plain_homes, plain_turned,
)


class HitsTest(unittest.TestCase):
    def check(self, index, read, k, expected):
        found = hits(index, read, k)
        self.assertEqual(found, expected)
        self.assertIs(type(found), list)
        self.assertEqual({type(hit) for hit in found} - {tuple}, set())
        self.assertTrue(all(one < other for one, other in zip(found, found[1:])))

    def test_by_hand(self):
        index = Index([("a", "TTACGTT"), ("b", "GGG"), ("c", "AAC")], block=3, sample=2)
        cases = [
            ("ACG", 0, [(0, 0, 5, 0), (0, 1, 6, 0)]),
            ("AC", 0, [(0, 0, 4, 0), (0, 1, 6, 0), (2, 0, 3, 0)]),
            ("GTT", 0, [(0, 0, 7, 0), (2, 1, 3, 0)]),
            ("GTT", 1, [(0, 0, 2, 1), (0, 0, 6, 1), (0, 0, 7, 0), (0, 1, 4, 1), (2, 1, 2, 1), (2, 1, 3, 0)]),
            ("GGGG", 1, [(1, 0, 3, 1)]),
            ("GGGG", 0, []), ("CCCCC", 1, []),
            ("CCC", 0, [(1, 1, 3, 0)]),
            ("N", 0, []), ("NNN", 2, []),
        ]
        for read, k, expected in cases:
            with self.subTest(read=read, k=k):
                self.check(index, read, k, expected)

    def test_own_turned_text(self):
        index = Index([("a", "GGACGTGG"), ("b", "TTTT")])
        for read, k, ends in [("ACGT", 0, [(6, 0)]), ("ACGT", 1, [(5, 1), (6, 0), (7, 1)])]:
            self.assertEqual(plain_turned(read), read)
            self.check(index, read, k, [(0, strand, end, changes) for strand in (0, 1) for end, changes in ends])
        for read in ("AT", "ANT", "N", "GNC", "ACNGT"):
            with self.subTest(read=read):
                self.assertEqual(plain_turned(read), read)
                for k in (1, 2, 3):
                    self.check(index, read, k, plain_hits(index.references, read, k))

    def test_as_many_changes_as_letters(self):
        index = Index([("a", "ACGTA"), ("b", "N")])
        for k in (2, 3, 50):
            found = hits(index, "AC", k)
            self.check(index, "AC", k, plain_hits(index.references, "AC", k))
            self.assertEqual([hit[:3] for hit in found], [
                (number, strand, end) for number, length in ((0, 5), (1, 1)) for strand in (0, 1)
                for end in range(length + 1)])

    def test_drawn(self):
        source = random.Random(51)
        for name, references in lists_of_references().items():
            reads = drawn_reads(source, references)
            for block, sample in BLOCKS_AND_SAMPLES:
                index = Index(references, block=block, sample=sample)
                for read in source.sample(reads, 8):
                    for k in (0, 1, 2, 4, len(read) - 1, len(read), len(read) + 1):
                        with self.subTest(references=name, block=block, sample=sample, read=read, k=k):
                            self.check(index, read, k, plain_hits(references, read, k))

    def test_least_for_all_begins(self):
        source = random.Random(52)
        for _ in range(60):
            references = [(name, random_text(source, source.randint(1, 12), "ACN")) for name in "ab"]
            read = random_text(source, source.randint(1, 6), "ACGTN")
            index = Index(references, sample=source.randint(1, 4))
            for k in range(4):
                self.check(index, read, k, [
                    (number, strand, end, changes) for number, (_, text) in enumerate(references)
                    for strand, letters in enumerate((read, plain_turned(read)))
                    for end, changes in enumerate(distances_by_begins(letters, text)) if changes <= k])

    def test_longer_reads(self):
        """Reads whose pieces are rare, and such whose pieces are common, in references of some thousands."""
        source = random.Random(53)
        unit = random_text(source, 40)
        texts = [random_text(source, 1500, "ACGT" * 20 + "N"), unit * 30, random_text(source, 800)]
        references = [(f"r{at}", text) for at, text in enumerate(texts)]
        index = Index(references)
        for number, length, k in [(0, 40, 2), (0, 100, 4), (1, 90, 3), (2, 300, 20), (2, 30, 9), (1, 25, 0)]:
            begin = source.randrange(len(texts[number]) - length)
            read = texts[number][begin:begin + length]
            for letters in (read, read[:9] + "N" + read[9:], plain_turned(read[:20] + read[21:])):
                expected = plain_hits(references, letters, k)
                self.assertTrue(expected or k == 0)
                self.check(index, letters, k, expected)

    def test_longest(self):
        source = random.Random(54)
        text = random_text(source, 100000)
        index = Index([("a", text), ("b", plain_turned(text[:50000]))], block=1000, sample=1000)
        read = text[20000:20500] + "G" + text[20500:20999]
        found = hits(index, read, 50)
        self.assertEqual([hit for hit in found if hit[3] == 1], [(0, 0, 20999, 1), (1, 1, 30000, 1)])
        self.assertEqual(len(hits(index, "AC", 2)), 2 * 100001 + 2 * 50001)
        self.assertEqual(len(hits(index, "A", 0)), sum(letters.count("A") + letters.count("T")
                                                       for _, letters in index.references))

    def test_arguments_stay_and_asked_again(self):
        references = [("a", "TTACGTT"), ("b", "GGG"), ("c", "AAC")]
        index = Index(references, block=3, sample=2)
        before = copy.deepcopy(vars(index))
        expected = {(read, k): plain_hits(references, read, k) for read in ("ACG", "GTT", "A", "CNN") for k in range(4)}
        for _ in range(3):
            for (read, k), found in expected.items():
                returned = hits(index, read, k)
                self.assertEqual(returned, found)
                returned.reverse()
                returned.append((0, 0, 0, 0))
        self.assertEqual(vars(index), before)


class HomesTest(unittest.TestCase):
    def check(self, found, expected):
        before = list(found)
        for _ in range(2):
            told = homes(found)
            self.assertEqual(told, expected)
            self.assertIs(type(told), list)
            told.append((0, 0, 0, 0))
            self.assertEqual(found, before)
        self.assertEqual(plain_homes(found), expected)

    def test_none_and_one(self):
        self.check([], [])
        for hit in [(0, 0, 0, 0), (0, 0, 5, 0), (7, 1, 12, 3)]:
            self.check([hit], [hit])

    def test_neighbouring_ends(self):
        self.check([(0, 0, 4, 1), (0, 0, 5, 1)], [(0, 0, 4, 1)])
        self.check([(0, 0, 4, 1), (0, 0, 5, 1), (0, 0, 6, 1)], [(0, 0, 4, 1)])
        self.check([(0, 1, end, 2) for end in range(3, 20)], [(0, 1, 3, 2)])
        self.check([(0, 0, 0, 2), (0, 0, 1, 2)], [(0, 0, 0, 2)])
        self.check([(0, 0, 4, 1), (0, 0, 6, 1)], [(0, 0, 4, 1), (0, 0, 6, 1)])
        self.check([(0, 0, 4, 1), (0, 0, 5, 1), (0, 0, 7, 1), (0, 0, 8, 1)], [(0, 0, 4, 1), (0, 0, 7, 1)])

    def test_other_changes(self):
        self.check([(0, 0, 4, 1), (0, 0, 5, 0), (0, 0, 6, 1)], [(0, 0, 5, 0)])
        self.check([(0, 0, 4, 2), (0, 0, 5, 1), (0, 0, 6, 1), (0, 0, 7, 2)], [(0, 0, 5, 1)])
        self.check([(0, 0, 4, 1), (0, 0, 5, 2), (0, 0, 6, 1)], [(0, 0, 4, 1), (0, 0, 6, 1)])
        self.check([(0, 0, 4, 1), (0, 1, 4, 0), (1, 0, 9, 1)], [(0, 1, 4, 0)])

    def test_strands_and_references(self):
        self.check([(0, 0, 4, 1), (0, 1, 5, 1)], [(0, 0, 4, 1), (0, 1, 5, 1)])
        self.check([(0, 0, 4, 1), (1, 0, 5, 1)], [(0, 0, 4, 1), (1, 0, 5, 1)])
        self.check([(0, 0, 4, 1), (0, 0, 5, 1), (0, 1, 5, 1), (0, 1, 6, 1), (1, 0, 5, 1), (1, 0, 6, 1), (1, 1, 7, 1)],
                   [(0, 0, 4, 1), (0, 1, 5, 1), (1, 0, 5, 1), (1, 1, 7, 1)])

    def test_of_found_hits(self):
        source = random.Random(55)
        seen = set()
        for references in lists_of_references().values():
            index = Index(references)
            for read in drawn_reads(source, references):
                for k in (0, 1, 3):
                    found = hits(index, read, k)
                    self.check(found, plain_homes(found))
                    seen.add(min(3, len(homes(found))))
        self.assertEqual(seen, {0, 1, 2, 3})

    def test_each_short_list(self):
        places = [(0, 0, 1), (0, 0, 2), (0, 0, 3), (0, 1, 2), (1, 0, 3)]
        for changes in itertools.product((None, 0, 1), repeat=len(places)):
            found = [(*place, many) for place, many in zip(places, changes) if many is not None]
            self.check(found, plain_homes(found))


class InterfaceTest(unittest.TestCase):
    def test_names_and_arguments(self):
        for function, arguments in [(hits, ["index", "read", "k"]), (homes, ["found"])]:
            self.assertEqual(function.__module__, module.__name__)
            self.assertEqual(list(inspect.signature(function).parameters), arguments)


if __name__ == "__main__":
    unittest.main()
