"""Piles: points 35 to 37, and what of point 1 reaches them."""

import copy
import inspect
import itertools
import random
import unittest

from homereads import piles
from homereads.piles import Pile

from plain import random_text
from plain_changes import plain_turned

NOTHING = (0, 0, 0, 0, 0, 0, 0)
METHODS = {"add": ["record", "read"], "sums": ["position"], "told": ["position"], "differences": [], "mended": []}


def record(cut_path, *, begin=0, strand=0):
    """A record with this path; a pile does not need its other parts."""
    return ("r", 0, strand, begin, begin, 0, 0, cut_path)


def pile_of(text, *added):
    """A pile with a read for each cut path, text and list of marks, from the beginning of the reference."""
    pile = Pile(text)
    for cut_path, letters, marks in added:
        pile.add(record(cut_path), ("r", letters, marks))
    return pile


def marked(letters, *marks):
    """A pile of one position, of a reference with an `N`, with these letters and marks."""
    return pile_of("N", *[("1X", letter, [mark]) for letter, mark in zip(letters, marks, strict=True)])


class PlainPile:
    """What records say, kept as one list of words for each position."""

    def __init__(self, text):
        self.text = text
        self.words = [[] for _ in range(len(text) + 1)]

    def add(self, added, read):
        strand, begin, cut_path = added[2], added[3], added[7]
        pairs = list(zip(read[1], read[2], strict=True))
        if strand == 1:
            pairs = [(plain_turned(letter), mark) for letter, mark in reversed(pairs)]
        digits = ""
        for character in cut_path:
            if character in "0123456789":
                digits += character
                continue
            for _ in range(int(digits)):
                if character == "I":
                    pairs.pop(0)
                    self.words[begin].append(("extra", 1))
                else:
                    self.words[begin].append(("gap", 1) if character == "D" else pairs.pop(0))
                    begin += 1
            digits = ""
        assert not pairs

    def sums(self, position):
        return tuple(sum(many for word, many in self.words[position] if word == wanted)
                     for wanted in ("A", "C", "G", "T", "N", "gap", "extra"))

    def told(self, position):
        sums = dict(zip("ACGTN", self.sums(position)))
        for letter in "ACGT":
            if sums[letter] > sum(sums.values()) - sums[letter]:
                return letter
        return None

    def differences(self):
        told = [(at, letter, self.told(at)) for at, letter in enumerate(self.text)]
        return [each for each in told if each[2] is not None and each[1] != each[2]]

    def mended(self):
        told = {at: letter for at, _, letter in self.differences()}
        return "".join(told.get(at, letter) for at, letter in enumerate(self.text))


class PileTest(unittest.TestCase):
    def check(self, pile, sums):
        """The sums of all positions, those that are not told here being 0."""
        for position in range(len(pile.mended()) + 1):
            found = pile.sums(position)
            self.assertIs(type(found), tuple)
            self.assertEqual({type(each) for each in found}, {int})
            self.assertEqual(found, sums.get(position, NOTHING), position)

    def test_empty(self):
        pile = Pile("ACGTN")
        self.check(pile, {})
        self.assertEqual([pile.told(position) for position in range(5)], [None] * 5)
        self.assertEqual((pile.differences(), pile.mended()), ([], "ACGTN"))

    def test_pairs_of_letters(self):
        pile = pile_of("AAAAAA", ("2=3X", "AACGT", [1, 2, 3, 40, 0]), ("6X", "NNNNNN", [7] * 6))
        self.check(pile, {0: (1, 0, 0, 0, 7, 0, 0), 1: (2, 0, 0, 0, 7, 0, 0), 2: (0, 3, 0, 0, 7, 0, 0),
                          3: (0, 0, 40, 0, 7, 0, 0), 4: (0, 0, 0, 0, 7, 0, 0), 5: (0, 0, 0, 0, 7, 0, 0)})

    def test_begin(self):
        pile = Pile("ACGTACGT")
        self.assertIsNone(pile.add(record("2=1X", begin=4), ("r", "ACC", [5, 6, 7])))
        self.check(pile, {4: (5, 0, 0, 0, 0, 0, 0), 5: (0, 6, 0, 0, 0, 0, 0), 6: (0, 7, 0, 0, 0, 0, 0)})

    def test_turned_read(self):
        # The turned text of ACCGN is NCGGT, its marks are 5, 4, 3, 2, 1.
        pile = Pile("TTCGGTT")
        self.assertIsNone(pile.add(record("1X4=", begin=1, strand=1), ("r", "ACCGN", [1, 2, 3, 4, 5])))
        self.check(pile, {1: (0, 0, 0, 0, 5, 0, 0), 2: (0, 4, 0, 0, 0, 0, 0), 3: (0, 0, 3, 0, 0, 0, 0),
                          4: (0, 0, 2, 0, 0, 0, 0), 5: (0, 0, 0, 1, 0, 0, 0)})

    def test_gaps(self):
        pile = pile_of("ACGTACGT", ("1=2D1=", "AT", [9, 8]), ("3D1=1D", "T", [7]))
        self.check(pile, {0: (9, 0, 0, 0, 0, 1, 0), 1: (0, 0, 0, 0, 0, 2, 0), 2: (0, 0, 0, 0, 0, 2, 0),
                          3: (0, 0, 0, 15, 0, 0, 0), 4: (0, 0, 0, 0, 0, 1, 0)})

    def test_extras(self):
        # At the start, in the middle, and behind the last letter.
        pile = pile_of("ACG", ("2I1=", "TTA", [1, 2, 3]), ("1=3I1=", "ATTTC", [4] * 5), ("3=1I", "ACGT", [6] * 4))
        self.check(pile, {0: (13, 0, 0, 0, 0, 0, 2), 1: (0, 10, 0, 0, 0, 0, 3), 2: (0, 0, 6, 0, 0, 0, 0),
                          3: (0, 0, 0, 0, 0, 0, 1)})
        pile = Pile("ACG")
        pile.add(record("4I", begin=3), ("r", "ACGT", [9] * 4))
        pile.add(record("2I", begin=0), ("r", "AC", [9] * 2))
        pile.add(record("1=1I", begin=2, strand=1), ("r", "AC", [9, 1]))
        self.check(pile, {0: (0, 0, 0, 0, 0, 0, 2), 2: (0, 0, 1, 0, 0, 0, 0), 3: (0, 0, 0, 0, 0, 0, 5)})

    def test_each_step_on_both_strands(self):
        # The turned text of ATTCG is CGAAT.
        for strand, letters, marks in [(0, "CGAAT", [1, 2, 3, 4, 5]), (1, "ATTCG", [5, 4, 3, 2, 1])]:
            pile = Pile("TTCATAGG")
            self.assertIsNone(pile.add(record("1=1I1=1D1=1X", begin=2, strand=strand), ("r", letters, marks)))
            self.check(pile, {2: (0, 1, 0, 0, 0, 0, 0), 3: (3, 0, 0, 0, 0, 0, 1), 4: (0, 0, 0, 0, 0, 1, 0),
                              5: (4, 0, 0, 0, 0, 0, 0), 6: (0, 0, 0, 5, 0, 0, 0)})

    def test_marks_of_0(self):
        pile = pile_of("ACG", ("1=1X1D", "AT", [0, 0]))
        self.check(pile, {2: (0, 0, 0, 0, 0, 1, 0)})
        self.assertEqual((pile.told(0), pile.told(1), pile.differences()), (None, None, []))
        pile.add(record("2X"), ("r", "CG", [0, 1]))
        self.assertEqual((pile.told(0), pile.told(1), pile.differences()), (None, "G", [(1, "C", "G")]))

    def test_records_one_on_another(self):
        pile = Pile("ACGT")
        for times in range(1, 6):
            pile.add(record("4="), ("r", "ACGT", [1, 2, 3, 40]))
            pile.add(record("1=1X", strand=1, begin=2), ("r", "GC", [5, 6]))
            self.check(pile, {0: (times, 0, 0, 0, 0, 0, 0), 1: (0, 2 * times, 0, 0, 0, 0, 0),
                              2: (0, 0, 9 * times, 0, 0, 0, 0), 3: (0, 5 * times, 0, 40 * times, 0, 0, 0)})

    def test_long_path(self):
        pile = pile_of("A" * 100000, ("100=99800D100=", "A" * 200, [40] * 200))
        self.assertEqual([pile.sums(at) for at in (0, 99, 100, 99899, 99900, 99999, 100000)], [
            (40, 0, 0, 0, 0, 0, 0)] * 2 + [(0, 0, 0, 0, 0, 1, 0)] * 2 + [(40, 0, 0, 0, 0, 0, 0)] * 2 + [NOTHING])


class ToldTest(unittest.TestCase):
    def test_by_hand(self):
        for pile, expected in [
            (marked("A", 1), "A"), (marked("C", 40), "C"), (marked("G", 3), "G"), (marked("T", 2), "T"),
            (marked("N", 9), None), (marked("A", 0), None), (marked(""), None),
            # Exactly half of the marks, more, and less.
            (marked("AC", 5, 5), None), (marked("AC", 5, 4), "A"), (marked("AC", 4, 5), "C"),
            (marked("ACG", 5, 3, 2), None), (marked("ACG", 6, 3, 2), "A"), (marked("ACG", 5, 3, 3), None),
            (marked("CTT", 10, 4, 6), None),
            (marked("CTT", 10, 4, 7), "T"), (marked("TGT", 3, 5, 3), "T"), (marked("ACGT", 1, 1, 1, 1), None),
            (marked("ACGT", 1, 1, 1, 4), "T"), (marked("ACGT", 1, 1, 1, 3), None),
            # Marks of `N` count, but `N` is never told.
            (marked("AN", 5, 5), None), (marked("AN", 6, 5), "A"), (marked("AN", 5, 6), None),
            (marked("ANC", 9, 4, 4), "A"), (marked("ANC", 8, 4, 4), None), (marked("GNN", 1, 0, 0), "G"),
            (marked("NNN", 40, 40, 40), None),
        ]:
            with self.subTest(sums=pile.sums(0)):
                self.assertEqual(pile.told(0), expected)

    def test_gaps_and_extras_do_not_count(self):
        pile = pile_of("C", ("1D1I", "A", [1]), ("1D", "", []), ("1D", "", []), ("2I1X", "GGA", [40, 40, 1]))
        self.assertEqual((pile.sums(0), pile.sums(1)), ((1, 0, 0, 0, 0, 3, 2), (0, 0, 0, 0, 0, 0, 1)))
        self.assertEqual((pile.told(0), pile.mended()), ("A", "A"))

    def test_differences_and_mended(self):
        pile = pile_of("ACGTNNAC", ("1=2X1=2X", "ATATCN", [3, 3, 3, 3, 3, 3]), ("2X", "CC", [2, 3]))
        self.assertEqual([pile.told(position) for position in range(8)], ["A", None, "A", "T", "C", None, None, None])
        found = pile.differences()
        self.assertEqual(found, [(2, "G", "A"), (4, "N", "C")])
        self.assertIs(type(found), list)
        self.assertEqual({type(each) for each in found}, {tuple})
        self.assertEqual(pile.mended(), "ACATCNAC")

    def test_told_letter_agrees(self):
        pile = pile_of("ACGT", ("4=", "ACGT", [1, 2, 3, 4]))
        self.assertEqual([pile.told(at) for at in range(4)], ["A", "C", "G", "T"])
        self.assertEqual((pile.differences(), pile.mended()), ([], "ACGT"))

    def test_all_differ(self):
        pile = pile_of("ACGT", ("4X", "TGCA", [1, 2, 3, 4]))
        self.assertEqual(pile.differences(), [(0, "A", "T"), (1, "C", "G"), (2, "G", "C"), (3, "T", "A")])
        self.assertEqual(pile.mended(), "TGCA")


class DrawnTest(unittest.TestCase):
    def test_drawn(self):
        source = random.Random(111)
        for _ in range(150):
            text = random_text(source, source.randint(1, 15), "ACGTN")
            pile, plain = Pile(text), PlainPile(text)
            for _ in range(source.randint(0, 9)):
                begin = source.randint(0, len(text))
                steps = "".join(source.choices("===XID", k=source.randrange(18)))
                # A path ends where the text does.
                room = len(text) - begin
                kept = [step for at, step in enumerate(steps)
                        if step == "I" or sum(1 for each in steps[:at] if each != "I") < room]
                many = sum(1 for step in kept if step != "D")
                cut_path = "".join(f"{len(list(run))}{step}" for step, run in itertools.groupby(kept))
                marks = [source.choice([0, 1, 5, 40]) for _ in range(many)]
                read = ("r", random_text(source, many, "ACGTN"), marks)
                added = record(cut_path, begin=begin, strand=source.randrange(2))
                plain.add(added, read)
                self.assertIsNone(pile.add(added, read))
                self.assertEqual([pile.sums(at) for at in range(len(text) + 1)],
                                 [plain.sums(at) for at in range(len(text) + 1)])
            self.assertEqual([pile.told(at) for at in range(len(text))], [plain.told(at) for at in range(len(text))])
            self.assertEqual(pile.differences(), plain.differences())
            self.assertEqual(pile.mended(), plain.mended())


class ObjectsTest(unittest.TestCase):
    def answers(self, pile):
        many = len(pile.mended())
        return copy.deepcopy(([pile.sums(at) for at in range(many + 1)], [pile.told(at) for at in range(many)],
                              pile.differences(), pile.mended()))

    def test_two_piles(self):
        first, second = Pile("ACGT"), Pile("ACGT")
        empty = self.answers(second)
        first.add(record("3X1I1D"), ("r", "TTTA", [1, 2, 3, 4]))
        before = self.answers(first)
        self.assertEqual(before[2:], ([(0, "A", "T"), (1, "C", "T"), (2, "G", "T")], "TTTT"))
        self.assertEqual(self.answers(second), empty)
        second.add(record("1X"), ("r", "G", [1]))
        self.assertEqual(self.answers(first), before)
        self.assertEqual(second.mended(), "GCGT")
        self.assertEqual(self.answers(Pile("ACGT")), empty)

    def test_what_was_passed_stays_and_may_be_changed(self):
        for strand in (0, 1):
            pile = Pile("ACGT")
            marks = [1, 2, 3, 4]
            read, added = ("r", "TTCC", marks), record("2X1I1X", strand=strand)
            pile.add(added, read)
            self.assertEqual((read, added), (("r", "TTCC", [1, 2, 3, 4]), record("2X1I1X", strand=strand)))
            before = self.answers(pile)
            marks[:] = [40, 40, 40, 40]
            self.assertEqual(self.answers(pile), before)
            marks.clear()
            self.assertEqual(self.answers(pile), before)

    def test_returned_lists_changed(self):
        pile = pile_of("ACGT", ("4X", "TGCA", [1, 2, 3, 4]))
        before = self.answers(pile)
        found = pile.differences()
        found.reverse()
        found.pop()
        self.assertEqual(self.answers(pile), before)
        self.assertEqual(pile.differences(), before[2])


class InterfaceTest(unittest.TestCase):
    def test_names_and_arguments(self):
        self.assertEqual(Pile.__module__, piles.__name__)
        self.assertEqual(list(inspect.signature(Pile).parameters), ["text"])

    def test_methods_stand_in_the_class(self):
        for name, arguments in METHODS.items():
            self.assertIn(name, vars(Pile))
            self.assertEqual(list(inspect.signature(vars(Pile)[name]).parameters), ["self", *arguments])


if __name__ == "__main__":
    unittest.main()
