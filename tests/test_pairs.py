"""Pairs: points 33 and 34, and what of point 1 reaches them."""

import copy
import inspect
import random
import unittest

from homereads import pairs
from homereads.index import Index
from homereads.pairs import best_pairs

from plain import lists_of_references, random_text
from plain_changes import drawn_reads, plain_hits, plain_turned


def plain_pairs(references, first, second, k, low, high):
    """The best pairs by a search over all hits."""
    fitting = []
    for one in plain_hits(references, first, k):
        for other in plain_hits(references, second, k):
            if one[0] == other[0] and one[1] != other[1]:
                if one[1] == 0:
                    span = other[2] - one[2] + len(first)
                else:
                    span = one[2] - other[2] + len(second)
                if low <= span <= high:
                    fitting.append((one, other))
    least = min((one[3] + other[3] for one, other in fitting), default=None)
    return sorted((one, other) for one, other in fitting if one[3] + other[3] == least)


class BestPairsTest(unittest.TestCase):
    def check(self, index, first, second, k, low, high):
        before = copy.deepcopy(vars(index))
        found = best_pairs(index, first, second, k, low, high)
        told = (index.references, first, second, k, low, high)
        self.assertEqual(found, plain_pairs(index.references, first, second, k, low, high), told)
        self.assertIs(type(found), list)
        self.assertEqual({type(part) for pair in found for part in (pair, *pair)} - {tuple}, set())
        self.assertTrue(all(one < other for one, other in zip(found, found[1:])), told)
        self.assertEqual(vars(index), before)
        return found

    def setUp(self):
        # ACCA lies at 5 to 9, and the turned text of AACA at 15 to 19.
        self.index = Index([("a", "GGGGGACCAGGGGGGTGTTGGGG"), ("b", "GG")])
        self.pair = ((0, 0, 9, 0), (0, 1, 19, 0))

    def test_one_pair(self):
        self.assertEqual(self.check(self.index, "ACCA", "AACA", 0, 0, 1000), [self.pair])
        self.assertEqual(self.check(self.index, "AACA", "ACCA", 0, 0, 1000), [self.pair[::-1]])

    def test_span(self):
        # From 5 to 19, the span is 14.
        fitting = [(14, 14), (13, 14), (14, 15), (0, 100000), (0, 14), (14, 100000)]
        others = [(15, 100000), (0, 13), (15, 13), (15, 15), (13, 13), (100000, 0), (14, 13), (15, 14)]
        for low, high in fitting + others:
            with self.subTest(low=low, high=high):
                expected = [self.pair] if (low, high) in fitting else []
                self.assertEqual(self.check(self.index, "ACCA", "AACA", 0, low, high), expected)
                turned = [pair[::-1] for pair in expected]
                self.assertEqual(self.check(self.index, "AACA", "ACCA", 0, low, high), turned)

    def test_length_of_the_read_on_strand_0(self):
        index = Index([("a", "GGGACCACCAGGGGGGTGTTGGGG")])
        pair = ((0, 0, 10, 0), (0, 1, 20, 0))
        for span in range(12, 22):
            found = [pair] if span == 17 else []
            self.assertEqual(self.check(index, "ACCACCA", "AACA", 0, span, span), found)
            self.assertEqual(self.check(index, "AACA", "ACCACCA", 0, span, span), [pair[::-1] for pair in found])

    def test_turned_ahead(self):
        """The hit on strand 1 may lie ahead of the one on strand 0: then the span is small, or less than 0."""
        index = Index([("a", "GGGTGTTGGGGACCAGG")])
        self.assertEqual(self.check(index, "ACCA", "AACA", 0, 0, 100000), [])
        index = Index([("a", "GGGTGTTACCAGG")])
        self.assertEqual(self.check(index, "ACCA", "AACA", 0, 0, 0), [((0, 0, 11, 0), (0, 1, 7, 0))])
        self.assertEqual(self.check(index, "AACA", "ACCA", 0, 0, 0), [((0, 1, 7, 0), (0, 0, 11, 0))])
        self.assertEqual(self.check(index, "AACA", "ACCA", 0, 1, 100), [])

    def test_none(self):
        # On one strand only; on two references; without hits of the one or the other.
        self.assertEqual(self.check(Index([("a", "GGACCAGGAACAGG")]), "ACCA", "AACA", 0, 0, 1000), [])
        self.assertEqual(self.check(Index([("a", "GGTGGTGGTGTTGG")]), "ACCA", "AACA", 0, 0, 1000), [])
        self.assertEqual(self.check(Index([("a", "GGACCAGG"), ("b", "GGTGTTGG")]), "ACCA", "AACA", 0, 0, 1000), [])
        self.assertEqual(self.check(self.index, "ACCA", "TTTT", 0, 0, 1000), [])
        self.assertEqual(self.check(self.index, "TTTT", "ACCA", 0, 0, 1000), [])
        self.assertEqual(self.check(self.index, "TTTTT", "CCACC", 0, 0, 1000), [])

    def test_several(self):
        index = Index([("a", "ACCAGGTGTTGTGTT"), ("b", "ACCATGTT")])
        self.assertEqual(self.check(index, "ACCA", "AACA", 0, 0, 1000), [
            ((0, 0, 4, 0), (0, 1, 10, 0)), ((0, 0, 4, 0), (0, 1, 15, 0)), ((1, 0, 4, 0), (1, 1, 8, 0))])
        self.assertEqual(self.check(index, "AACA", "ACCA", 0, 0, 1000), [
            ((0, 1, 10, 0), (0, 0, 4, 0)), ((0, 1, 15, 0), (0, 0, 4, 0)), ((1, 1, 8, 0), (1, 0, 4, 0))])
        self.assertEqual(len(self.check(index, "ACCA", "AACA", 0, 10, 15)), 2)

    def test_least_changes_of_both(self):
        """The sum counts: a hit with more changes may belong to the best pair."""
        index = Index([("a", "ACCACC" + "G" * 20 + "ACTACC" + "GG" + "TTGTTG")])
        self.assertEqual(len(plain_hits(index.references, "ACCACC", 0)), 1)
        for low, high, least in [(0, 100, 0), (0, 20, 1), (40, 40, 0), (39, 39, 1), (14, 14, 1)]:
            found = self.check(index, "ACCACC", "CAACAA", 2, low, high)
            self.assertEqual({one[3] + other[3] for one, other in found}, {least})

    def test_most_changes(self):
        """The best pair may have as many changes as both hits can have at most."""
        index = Index([("a", "G" * 30 + "A" * 7 + "G" * 30 + "T" * 7 + "G" * 30)])
        for k in (4, 5):
            found = self.check(index, "A" * 12, "A" * 12, k, 0, 100)
            self.assertEqual({(one[3], other[3]) for one, other in found}, {(5, 5)} if k == 5 else set())

    def test_both_on_their_own_turned_texts(self):
        index = Index([("a", "GGACGTGGGACGTGG")])
        found = self.check(index, "ACGT", "ACGT", 1, 0, 100)
        self.assertIn(((0, 0, 6, 0), (0, 1, 13, 0)), found)
        self.assertIn(((0, 1, 13, 0), (0, 0, 6, 0)), found)
        self.assertIn(((0, 0, 6, 0), (0, 1, 6, 0)), found)

    def test_drawn(self):
        source = random.Random(101)
        many = set()
        for references in lists_of_references().values():
            index = Index(references, sample=3)
            reads = drawn_reads(source, references)
            for _ in range(25):
                first, second = source.choices(reads, k=2)
                low, high = source.choice([(0, 100), (5, 15), (12, 12), (0, 0), (20, 10), (30, 60), (1, 100000)])
                many.add(min(3, len(self.check(index, first, second, source.choice([0, 1, 2, 4]), low, high))))
        self.assertEqual(many, {0, 1, 2, 3})

    def test_drawn_pairs(self):
        source = random.Random(102)
        text = random_text(source, 200)
        text += text[100:200] + plain_turned(text[50:150])
        index = Index([("a", text), ("b", text[100:200])])
        for _ in range(20):
            begin = source.randrange(250)
            end = begin + source.randint(40, 120)
            first, second = text[begin:begin + 20], plain_turned(text[end - 24:end])
            second = second[:9] + source.choice(["", "N", second[9]]) + second[10:]
            for one, other in ((first, second), (second, first)):
                found = self.check(index, one, other, 2, end - begin - 3, end - begin + 3)
                self.assertTrue(found)

    def test_many_hits(self):
        """Searching all pairs of these hits would take too long."""
        index = Index([("a", "AC" * 20000 + "G" + "GT" * 20000)])
        found = best_pairs(index, "ACACACAC", "ACACACAC", 1, 79000, 100000)
        self.assertEqual((found[0], found[-1]), (((0, 0, 8, 0), (0, 1, 79001, 0)), ((0, 1, 80001, 0), (0, 0, 1008, 0))))
        self.assertEqual(best_pairs(index, "A" * 50, "A" * 50, 50, 100000, 100000), [])
        self.assertEqual(best_pairs(index, "ACAC", "CCCC", 0, 0, 100000), [])

    def test_asked_again(self):
        for _ in range(3):
            found = best_pairs(self.index, "ACCA", "AACA", 0, 0, 1000)
            self.assertEqual(found, [self.pair])
            found.clear()


class InterfaceTest(unittest.TestCase):
    def test_names_and_arguments(self):
        self.assertEqual(best_pairs.__module__, pairs.__name__)
        arguments = ["index", "first", "second", "k", "low", "high"]
        self.assertEqual(list(inspect.signature(best_pairs).parameters), arguments)


if __name__ == "__main__":
    unittest.main()
