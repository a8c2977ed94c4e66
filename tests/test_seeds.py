"""Pieces and windows: points 21 to 24, and what of point 1 reaches them."""

import inspect
import random
import unittest

from homereads import seeds
from homereads.distance import ends
from homereads.index import Index
from homereads.seeds import pieces, windows

from plain import lists_of_references, random_text
from plain_changes import BLOCKS_AND_SAMPLES, distances_by_columns, drawn_reads, plain_pieces, plain_windows


class PiecesTest(unittest.TestCase):
    def test_by_hand(self):
        cases = [
            ("ACGTA", 0, [(0, "ACGTA")]),
            ("ACGTA", 1, [(0, "ACG"), (3, "TA")]),
            ("ACGTA", 2, [(0, "AC"), (2, "GT"), (4, "A")]),
            ("ACGTA", 3, [(0, "AC"), (2, "G"), (3, "T"), (4, "A")]),
            ("ACGTA", 4, [(0, "A"), (1, "C"), (2, "G"), (3, "T"), (4, "A")]),
            ("ACGTA", 5, [(0, "A"), (1, "C"), (2, "G"), (3, "T"), (4, "A"), (5, "")]),
            ("AC", 3, [(0, "A"), (1, "C"), (2, ""), (2, "")]),
            ("ANNCGT", 1, [(0, "ANN"), (3, "CGT")]),
            ("ACGTNACG", 2, [(0, "ACG"), (3, "TNA"), (6, "CG")]),
            ("A", 0, [(0, "A")]),
            ("N", 1, [(0, "N"), (1, "")]),
        ]
        for read, k, expected in cases:
            with self.subTest(read=read, k=k):
                found = pieces(read, k)
                self.assertEqual(found, expected)
                self.assertIs(type(found), list)
                self.assertEqual({type(pair) for pair in found}, {tuple})

    def test_each_remainder(self):
        source = random.Random(41)
        for length in [*range(1, 40), 99, 100, 101, 999, 1000]:
            read = random_text(source, length, "ACGTN")
            for k in {*range(0, 13), 49, 50, length - 1, length, length + 1}:
                found = pieces(read, k)
                self.assertEqual(found, plain_pieces(read, k))
                self.assertEqual(len(found), k + 1)
                self.assertEqual("".join(part for _, part in found), read)
                self.assertEqual([offset for offset, _ in found],
                                 [sum(len(part) for _, part in found[:at]) for at in range(k + 1)])

    def test_returned_lists_changed(self):
        for _ in range(2):
            found = pieces("ACGTA", 1)
            self.assertEqual(found, [(0, "ACG"), (3, "TA")])
            found.clear()


class WindowsTest(unittest.TestCase):
    def check(self, text, read, k, expected, more=()):
        """The windows of a read in a text, which is the second one of three references."""
        index = Index([("a", "TTTTT"), ("b", text), ("c", "GG"), *more], block=3, sample=2)
        found = windows(index, 1, read, k)
        self.assertEqual(found, expected)
        self.assertIs(type(found), list)
        self.assertEqual({type(window) for window in found} - {tuple}, set())

    def test_one_place(self):
        # The piece AC lies at 5: the read lies from 5 to 9, with one change from 4 to 10.
        self.check("GGGGGACGGGGGGGG", "ACCA", 1, [(4, 10)])
        self.check("GGGGGGGCAGGGGGG", "ACCA", 1, [(4, 10)])
        self.check("GGGGGACCAGGGGGG", "ACCA", 0, [(5, 9)])
        self.check("GGGGGGGGGGGG", "ACCA", 1, [])
        self.check("GGGGGACCAGGGGGG", "ACCC", 0, [])

    def test_cut_at_both_ends(self):
        self.check("ACGGGGGGGG", "ACCA", 1, [(0, 5)])
        self.check("GACGGGGGGG", "ACCA", 1, [(0, 6)])
        self.check("GGACGGGGGG", "ACCA", 1, [(1, 7)])
        self.check("GGCAGGGGGG", "ACCA", 1, [(0, 5)])
        self.check("CAGGGGGGGG", "ACCA", 1, [(0, 3)])
        self.check("GGGGGGGGAC", "ACCA", 1, [(7, 10)])
        self.check("GGGGGACGGG", "ACCA", 1, [(4, 10)])
        self.check("GGGGGGACGG", "ACCA", 1, [(5, 10)])
        self.check("AC", "ACCA", 1, [(0, 2)])

    def test_apart_touching_and_overlapping(self):
        # The first AC lies at 0: its window is (0, 5). That of the second one is (5, 11), (6, 12) and (4, 10).
        self.check("ACGGGGACGGGGGG", "ACCA", 1, [(0, 11)])
        self.check("ACGGGGGACGGGGG", "ACCA", 1, [(0, 5), (6, 12)])
        self.check("ACGGGACGGGGGGG", "ACCA", 1, [(0, 10)])
        # (0, 6), (6, 12) and (12, 18) are joined to one, and a fourth one stands apart.
        self.check("GACGGGGACGGGGACGGGGGGGGACGGGG", "ACCA", 1, [(0, 18), (22, 28)])

    def test_one_in_another(self):
        # Both pieces lie at their places, and one letter aside: (4, 10) once and twice, and (5, 11).
        self.check("GGGGGACCAGGGGGG", "ACCA", 1, [(4, 10)])
        self.check("GGGGGACGCAGGGGG", "ACCA", 1, [(4, 11)])
        # Cut at both ends, one window holds the other.
        self.check("GACACGGG", "ACCACA", 2, [(0, 8)])
        self.check("ACACAC", "ACAC", 1, [(0, 6)])

    def test_parts_with_unknown_letters(self):
        self.check("GGGGGACNGGGGGGG", "ACNA", 1, [(4, 10)])
        self.check("GGGGGGGNAGGGGGG", "ACNA", 1, [])
        self.check("GGANNAGG", "ANNA", 1, [])
        self.check("NNNNNNNN", "NNNN", 1, [])
        self.check("NNNNNNNN", "NNNN", 3, [])
        self.check("GANGANGG", "N", 0, [])

    def test_empty_part(self):
        self.check("GGGGGGGGG", "ACC", 2, [])
        self.check("GGGGGGGGG", "ACC", 3, [(0, 9)])
        self.check("GGGGGGGGG", "ACC", 4, [(0, 9)])
        self.check("G", "N", 1, [(0, 1)])
        self.check("GANGANGG", "NN", 2, [(0, 8)])
        self.check("GANGANGG", "N", 50, [(0, 8)])

    def test_each_reference_on_its_own(self):
        references = [("a", "GGGGGACCAGGGGGG"), ("b", "GGGG"), ("c", "ACCA"), ("a", "GGGGGACCAGGGGGG"), ("d", "GACC")]
        index = Index(references, block=2, sample=3)
        for k, expected in [
            (0, [[(5, 9)], [], [(0, 4)], [(5, 9)], []]),
            (1, [[(4, 10)], [], [(0, 4)], [(4, 10)], [(0, 4)]]),
            (4, [[(0, 15)], [(0, 4)], [(0, 4)], [(0, 15)], [(0, 4)]]),
        ]:
            self.assertEqual([windows(index, number, "ACCA", k) for number in range(5)], expected)

    def test_drawn(self):
        source = random.Random(42)
        for name, references in lists_of_references().items():
            reads = drawn_reads(source, references)
            for block, sample in BLOCKS_AND_SAMPLES:
                index = Index(references, block=block, sample=sample)
                for read in source.sample(reads, 10):
                    for k in (0, 1, 2, 3, 5, len(read) - 1, len(read)):
                        for number, (_, text) in enumerate(references):
                            with self.subTest(references=name, block=block, sample=sample, read=read, k=k):
                                self.assertEqual(windows(index, number, read, k), plain_windows(text, read, k))

    def test_longer_texts(self):
        source = random.Random(43)
        text = random_text(source, 2000, "ACGT" * 20 + "N")
        index = Index([("a", text), ("b", text[500:900])])
        for k in (0, 1, 2, 5, 10, 50):
            for length in (30, 100, 1000):
                read = text[700:700 + length]
                self.assertEqual(windows(index, 0, read, k), plain_windows(text, read, k))
                self.assertEqual(windows(index, 1, read, k), plain_windows(text[500:900], read, k))

    def test_windows_hold_all_hits(self):
        """Point 24: the ends in the windows are those of the whole text."""
        source = random.Random(44)
        for name, references in lists_of_references().items():
            index = Index(references, sample=3)
            for read in drawn_reads(source, references):
                for k in (0, 1, 2, 4):
                    for number, (_, text) in enumerate(references):
                        found = [(a + end, changes) for a, b in windows(index, number, read, k)
                                 for end, changes in ends(read, text[a:b], k)]
                        distances = distances_by_columns(read, text)
                        expected = [(end, changes) for end, changes in enumerate(distances) if changes <= k]
                        self.assertEqual(found, expected, (name, read, k))

    def test_asked_again(self):
        references = [("a", "GGGGGACCAGGGGGGGGACCGG"), ("b", "GGGG")]
        index = Index(references)
        for _ in range(3):
            found = windows(index, 0, "ACCA", 1)
            self.assertEqual(found, [(4, 10), (16, 22)])
            found.append((0, 1))
            found.reverse()
            whole = windows(index, 1, "ACCA", 4)
            self.assertEqual(whole, [(0, 4)])
            whole.clear()
        self.assertEqual((index.references, index.places("ACC")), (references, [(0, 5), (0, 17)]))


class InterfaceTest(unittest.TestCase):
    def test_names_and_arguments(self):
        for function, arguments in [(pieces, ["read", "k"]), (windows, ["index", "reference", "read", "k"])]:
            self.assertEqual(function.__module__, seeds.__name__)
            self.assertEqual(list(inspect.signature(function).parameters), arguments)


if __name__ == "__main__":
    unittest.main()
