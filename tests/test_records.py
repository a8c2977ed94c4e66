"""References and reads as lines: points 5 to 7, and what of point 1 reaches them."""

import copy
import inspect
import itertools
import unittest

from homereads import records
from homereads.errors import InvalidLine
from homereads.records import read_reads, read_references, write_reads, write_references

MARKS = "0123456789ABCDEFGHIJKLMNOPQRSTUVWXYZabcde"
NAME_CHARACTERS = "0123456789ABCDEFGHIJKLMNOPQRSTUVWXYZabcdefghijklmnopqrstuvwxyz"
LONG_NAME = NAME_CHARACTERS[22:]


def text_of(length):
    """A text in which neighbouring lines differ, so that exchanged or lost lines are seen."""
    return "".join("ACGTN"[(at * at // 3 + at // 7) % 5] for at in range(length))


def divided(text, places):
    """The lines of a text that is divided at these places."""
    bounds = [0, *places, len(text)]
    return [text[begin:end] for begin, end in zip(bounds, bounds[1:])]


class ReferencesTest(unittest.TestCase):
    def check_kinds(self, references):
        self.assertIs(type(references), list)
        for reference in references:
            self.assertIs(type(reference), tuple)
            self.assertEqual([type(part) for part in reference], [str, str])

    def test_example(self):
        references = read_references([">one", "ACG", "T", ">two", "NN"])
        self.assertEqual(references, [("one", "ACGT"), ("two", "NN")])
        self.check_kinds(references)

    def test_no_references(self):
        self.assertEqual(write_references([]), [])
        self.assertEqual(read_references([]), [])

    def test_lines_of_texts(self):
        expected = {1: [1], 59: [59], 60: [60], 61: [60, 1], 120: [60, 60], 121: [60, 60, 1]}
        for length, lengths in expected.items():
            with self.subTest(length=length):
                text = text_of(length)
                lines = write_references([("name", text)])
                self.assertIs(type(lines), list)
                self.assertEqual(lines[0], ">name")
                self.assertEqual([len(line) for line in lines[1:]], lengths)
                self.assertEqual("".join(lines[1:]), text)
                self.assertEqual(read_references(lines), [("name", text)])

    def test_read_back(self):
        references = [(f"r{length}", text_of(length)) for length in (121, 1, 60, 59, 120, 61, 1)]
        lines = write_references(references)
        self.assertEqual([line for line in lines if line[0] == ">"], [">" + name for name, _ in references])
        self.assertEqual(read_references(lines), references)
        self.check_kinds(read_references(lines))

    def test_same_names_and_texts(self):
        references = [("a", "ACG"), ("a", "ACG"), ("a", "T"), ("b", "T")]
        self.assertEqual(write_references(references), [">a", "ACG", ">a", "ACG", ">a", "T", ">b", "T"])
        self.assertEqual(read_references(write_references(references)), references)

    def test_names(self):
        self.assertEqual(len(LONG_NAME), 40)
        for name in [LONG_NAME, NAME_CHARACTERS[:40], *NAME_CHARACTERS]:
            with self.subTest(name=name):
                self.assertEqual(write_references([(name, "A")]), [">" + name, "A"])
                self.assertEqual(read_references([">" + name, "A"]), [(name, "A")])

    def test_divided_in_every_way(self):
        text = "ACGTNCA"
        for many in range(len(text)):
            for places in itertools.combinations(range(1, len(text)), many):
                with self.subTest(places=places):
                    lines = [">a", *divided(text, places), ">b", *divided(text, places)]
                    self.assertEqual(read_references(lines), [("a", text), ("b", text)])

    def test_long_texts_divided(self):
        for length in (59, 60, 61, 120, 121, 300):
            text = text_of(length)
            for place in range(1, length):
                self.assertEqual(read_references([">a", *divided(text, [place])]), [("a", text)])
            self.assertEqual(read_references([">a", *text]), [("a", text)])
            self.assertEqual(read_references([">a", text, ">b", *text]), [("a", text), ("b", text)])

    def test_longest_references(self):
        longest = text_of(100000)
        references = [("a", longest), ("b", longest[::-1])]
        lines = write_references(references)
        self.assertEqual(len(lines), 2 * 1668)
        self.assertEqual(read_references(lines), references)
        self.assertEqual(read_references([">a", longest, ">b", longest[::-1]]), references)
        self.assertEqual(read_references([">a", *longest]), [("a", longest)])

    def test_arguments_stay(self):
        references = [("a", text_of(121)), ("b", "N")]
        lines = [">a", "AC", "GT", ">b", "N"]
        for function, argument in [(write_references, references), (read_references, lines)]:
            before = copy.deepcopy(argument)
            first = function(argument)
            self.assertEqual(argument, before)
            self.assertEqual(function(argument), first)

    def test_lines_stay_if_one_is_wrong(self):
        for lines in [["x"], [">a", "AC", ">"], [">a", "AC", "x"], [">a"]]:
            before = list(lines)
            with self.assertRaises(InvalidLine):
                read_references(lines)
            self.assertEqual(lines, before)


class ReadsTest(unittest.TestCase):
    def check_kinds(self, reads):
        self.assertIs(type(reads), list)
        for read in reads:
            self.assertIs(type(read), tuple)
            self.assertEqual([type(part) for part in read], [str, str, list])
            self.assertEqual({type(mark) for mark in read[2]}, {int})

    def test_example(self):
        self.assertEqual(write_reads([("r1", "ACGN", [40, 10, 9, 0])]), ["@r1", "ACGN", "eA90"])

    def test_no_reads(self):
        self.assertEqual(write_reads([]), [])
        self.assertEqual(read_reads([]), [])

    def test_each_mark(self):
        self.assertEqual(len(MARKS), 41)
        for mark, character in enumerate(MARKS):
            with self.subTest(mark=mark):
                self.assertEqual(write_reads([("a", "T", [mark])]), ["@a", "T", character])
                self.assertEqual(read_reads(["@a", "T", character]), [("a", "T", [mark])])

    def test_all_marks(self):
        read = ("all", text_of(41), list(range(41)))
        self.assertEqual(write_reads([read]), ["@all", text_of(41), MARKS])
        self.assertEqual(read_reads(["@all", text_of(41), MARKS]), [read])
        self.check_kinds(read_reads(["@all", text_of(41), MARKS]))

    def test_read_back(self):
        lengths = (1, 2, 59, 60, 61, 121, 999, 1000, 1)
        reads = [(f"r{n}", text_of(n), [(n + at) % 41 for at in range(n)]) for n in lengths]
        lines = write_reads(reads)
        self.assertIs(type(lines), list)
        self.assertEqual(len(lines), 3 * len(reads))
        self.assertEqual(lines[0::3], ["@" + name for name, _, _ in reads])
        self.assertEqual(lines[1::3], [text for _, text, _ in reads])
        self.assertEqual(read_reads(lines), reads)
        self.check_kinds(read_reads(lines))

    def test_same_names_and_texts(self):
        reads = [("a", "AC", [1, 2]), ("a", "AC", [1, 2]), ("a", "AC", [2, 1])]
        self.assertEqual(read_reads(write_reads(reads)), reads)

    def test_names(self):
        for name in [LONG_NAME, NAME_CHARACTERS[:40], *NAME_CHARACTERS]:
            with self.subTest(name=name):
                self.assertEqual(write_reads([(name, "A", [0])]), ["@" + name, "A", "0"])
                self.assertEqual(read_reads(["@" + name, "A", "0"]), [(name, "A", [0])])

    def test_a_text_has_one_line(self):
        # G and T are marks, too: the second line of letters is one of marks.
        lines = ["@a", "AC", "GT", "@b", "AC", "00"]
        self.assertEqual(read_reads(lines), [("a", "AC", [16, 29]), ("b", "AC", [0, 0])])

    def test_arguments_stay(self):
        reads = [("a", "ACG", [0, 40, 3]), ("b", "N", [7])]
        lines = ["@a", "ACG", "0e3", "@b", "N", "7"]
        for function, argument in [(write_reads, reads), (read_reads, lines)]:
            before = copy.deepcopy(argument)
            first = function(argument)
            self.assertEqual(argument, before)
            self.assertEqual(function(argument), first)

    def test_lines_stay_if_one_is_wrong(self):
        for lines in [["x"], ["@a", "x", "0"], ["@a", "A", "!"], ["@a", "A"]]:
            before = list(lines)
            with self.assertRaises(InvalidLine):
                read_reads(lines)
            self.assertEqual(lines, before)


class InterfaceTest(unittest.TestCase):
    def test_names_and_arguments(self):
        expected = [
            (read_references, ["lines"]), (read_reads, ["lines"]),
            (write_references, ["references"]), (write_reads, ["reads"]),
        ]
        for function, names in expected:
            with self.subTest(function=function.__name__):
                self.assertEqual(function.__module__, records.__name__)
                self.assertEqual(list(inspect.signature(function).parameters), names)


if __name__ == "__main__":
    unittest.main()
