"""Wrong lines: point 8."""

import unittest

from homereads.errors import InvalidLine
from homereads.records import read_reads, read_references

NAME = "abcdefghijklmnopqrstuvwxyz0123456789ABCD"
MOST = 100000
READ_MOST = 1000

# Neighbours of the allowed characters in their tables, and signs that only look like letters or digits.
NOT_IN_NAMES = ["/", ":", "@", "[", "`", "{", ">", "_", "-", " ", "\t", "\n", "\u00e9", "\u0663", "\uff21", "\u00b2"]
NO_LETTERS = ["a", "c", "g", "t", "n", "B", "D", "F", "H", "M", "O", "S", "U", "0", ">", "@", "-", " ", "\n", "\uff21"]
NO_MARKS = ["f", "z", "/", ":", "@", "[", "`", "!", ">", "-", " ", "\n", "\u0663", "\uff21"]


def with_sign(text, at, sign):
    """The text with a sign in place of the character at a position."""
    return text[:at] + sign + text[at + 1:]


class FaultsTest(unittest.TestCase):
    def check(self, function, lines, line, column):
        with self.subTest(lines=[text if len(text) < 60 else text[:50] + ".." for text in lines[:8]]):
            with self.assertRaises(ValueError) as caught:
                function(lines)
            self.assertIs(type(caught.exception), InvalidLine)
            self.assertEqual((caught.exception.line, caught.exception.column), (line, column))

    def reference_fault(self, lines, line, column):
        """The lines are wrong there, also behind other references."""
        self.check(read_references, lines, line, column)
        self.check(read_references, [">a", "AC", "G", ">b", "T", *lines], line + 5, column)

    def read_fault(self, lines, line, column):
        """The lines are wrong there, also behind other reads."""
        self.check(read_reads, lines, line, column)
        self.check(read_reads, ["@a", "AC", "1e", "@b", "T", "0", *lines], line + 6, column)


class NameFaults:
    """The faults of names, for lines that begin with `sign` and go on with `rest`."""

    def name_fault(self, line, column):
        self.fault([self.sign + line, *self.rest], 0, column)
        # The line of the name is looked at first: what follows it, and whether anything does, changes nothing.
        self.fault([self.sign + line], 0, column)
        self.fault([self.sign + line, "x"], 0, column)

    def test_empty_name(self):
        self.name_fault("", 1)

    def test_name_of_41_characters(self):
        self.assertEqual(len(NAME), 40)
        self.name_fault(NAME + "a", 41)
        self.name_fault(NAME + "abc", 41)
        self.name_fault(NAME * 3, 41)

    def test_character_that_is_not_allowed(self):
        for sign in NOT_IN_NAMES:
            self.name_fault(sign, 1)
            self.name_fault(sign + "a", 1)
            self.name_fault("a" + sign, 2)
            self.name_fault("ab" + sign + "c" + sign, 3)

    def test_character_around_the_41st(self):
        self.name_fault(with_sign(NAME, 39, "-"), 40)
        self.name_fault(with_sign(NAME, 39, "-") + "a", 40)
        self.name_fault(with_sign(NAME + "a", 20, "-"), 21)
        self.name_fault(NAME + "-", 41)
        self.name_fault(NAME + "-a", 41)
        self.name_fault(NAME + "a-", 41)
        self.name_fault(NAME + "aaa-", 41)


class ReferenceNamesTest(NameFaults, FaultsTest):
    sign = ">"
    rest = ["ACGT", "NN"]

    def fault(self, lines, line, column):
        self.reference_fault(lines, line, column)


class ReadNamesTest(NameFaults, FaultsTest):
    sign = "@"
    rest = ["ACGT", "0123"]

    def fault(self, lines, line, column):
        self.read_fault(lines, line, column)


class ReferenceLinesTest(FaultsTest):
    def test_first_line_begins_no_reference(self):
        for first in ["", "a", "A", "ACGT", "@a", " >a", "-", "a>"]:
            self.check(read_references, [first], 0, 0)
            self.check(read_references, [first, "ACGT"], 0, 0)
            self.check(read_references, [first, ">a", "ACGT"], 0, 0)

    def test_line_behind_a_text(self):
        # Such a line begins no reference, and it is no line of a text either.
        self.reference_fault([">a", "ACGT", ""], 2, 0)
        self.reference_fault([">a", "ACGT", "", ">b", "A"], 2, 0)
        self.reference_fault([">a", "ACGT", "", "ACGT"], 2, 0)
        self.reference_fault([">a", "ACGT", "@b", "A"], 2, 0)
        self.reference_fault([">a", "ACGT", " >b", "A"], 2, 0)
        self.reference_fault([">a", "ACGT", "A>b", "A"], 2, 1)

    def test_empty_text(self):
        self.reference_fault([">a", ""], 1, 0)
        self.reference_fault([">a", "", "ACGT"], 1, 0)
        self.reference_fault([">a", "", ">b", "A"], 1, 0)

    def test_begin_of_a_reference_in_place_of_a_text(self):
        self.reference_fault([">a", ">b"], 1, 0)
        self.reference_fault([">a", ">b", "ACGT"], 1, 0)
        self.reference_fault([">a", "A", ">b", ">", "A"], 3, 0)

    def test_no_letter(self):
        for sign in NO_LETTERS:
            self.reference_fault([">a", sign], 1, 0)
            self.reference_fault([">a", sign + "ACGTN"], 1, 0)
            self.reference_fault([">a", "ACGTN" + sign], 1, 5)
            self.reference_fault([">a", "AC" + sign + "G" + sign], 1, 2)
            self.reference_fault([">a", "ACGTN", "NN", "A" + sign], 3, 1)

    def test_too_many_letters_on_one_line(self):
        self.assertEqual(len(read_references([">a", "A" * MOST])[0][1]), MOST)
        self.reference_fault([">a", "A" * (MOST + 1)], 1, MOST)
        self.reference_fault([">a", "A" * (MOST + 70)], 1, MOST)

    def test_no_letter_around_the_first_one_too_many(self):
        long = "A" * (MOST + 3)
        self.reference_fault([">a", with_sign(long, MOST - 1, "x")], 1, MOST - 1)
        self.reference_fault([">a", with_sign(long, 7, "x")], 1, 7)
        self.reference_fault([">a", with_sign(long, MOST, "x")], 1, MOST)
        self.reference_fault([">a", with_sign(long, MOST + 1, "x")], 1, MOST)
        self.reference_fault([">a", "A" * MOST + "x"], 1, MOST)

    def test_too_many_letters_over_several_lines(self):
        full = ["A" * 60] * (MOST // 60)
        self.assertEqual(MOST - 60 * len(full), 40)
        self.assertEqual(len(read_references([">a", *full, "C" * 40])[0][1]), MOST)
        last = 1 + len(full)
        self.reference_fault([">a", *full, "C" * 41], last, 40)
        self.reference_fault([">a", *full, "C" * 60], last, 40)
        self.reference_fault([">a", *full, "C" * 40, "C"], last + 1, 0)
        self.reference_fault([">a", *full, "C" * 40, "CCC", ">b", "A"], last + 1, 0)
        self.reference_fault([">a", "A" * (MOST - 1), "CC"], 2, 1)
        self.reference_fault([">a", "A", "C" * (MOST - 1), "G"], 3, 0)
        self.reference_fault([">a", "A", "C" * MOST], 2, MOST - 1)

    def test_lines_behind_a_full_text(self):
        full = "A" * MOST
        self.reference_fault([">a", full, ""], 2, 0)
        self.reference_fault([">a", full, "x"], 2, 0)
        self.reference_fault([">a", full, "Ax"], 2, 0)
        self.reference_fault([">a", full, ">b", "A" * (MOST + 1)], 3, MOST)

    def test_no_letter_in_the_line_with_the_first_one_too_many(self):
        most = "A" * (MOST - 5)
        self.reference_fault([">a", most, "CCCCxCC"], 2, 4)
        self.reference_fault([">a", most, "CCCCCxC"], 2, 5)
        self.reference_fault([">a", most, "CCCCCCx"], 2, 5)

    def test_lines_end(self):
        self.check(read_references, [">a"], 1, 0)
        self.reference_fault([">a"], 1, 0)
        self.reference_fault([">a", "A", "C", ">" + NAME], 4, 0)

    def test_the_first_wrong_line_counts(self):
        self.reference_fault([">a-", "x", ""], 0, 2)
        self.reference_fault([">a", "Ax", "", "-"], 1, 1)
        self.reference_fault([">a", "A", ">", ">b", ""], 2, 1)
        self.reference_fault([">a", "A", "AxA", ">"], 2, 1)
        self.check(read_references, ["a", ">"], 0, 0)


class ReadLinesTest(FaultsTest):
    def test_line_begins_no_read(self):
        for first in ["", "a", "A", "ACGT", ">a", " @a", "-", "a@"]:
            self.read_fault([first], 0, 0)
            self.read_fault([first, "ACGT", "0000"], 0, 0)
            self.read_fault([first, "@a", "ACGT", "0000"], 0, 0)

    def test_empty_text(self):
        self.read_fault(["@a", ""], 1, 0)
        self.read_fault(["@a", "", ""], 1, 0)
        self.read_fault(["@a", "", "A", "0"], 1, 0)

    def test_no_letter(self):
        for sign in NO_LETTERS:
            self.read_fault(["@a", sign, "0"], 1, 0)
            self.read_fault(["@a", sign + "ACGTN", "000000"], 1, 0)
            self.read_fault(["@a", "ACGTN" + sign, "000000"], 1, 5)
            self.read_fault(["@a", "AC" + sign + "G" + sign, "00000"], 1, 2)

    def test_too_many_letters(self):
        self.assertEqual(len(read_reads(["@a", "A" * READ_MOST, "0" * READ_MOST])[0][1]), READ_MOST)
        for many in (READ_MOST + 1, READ_MOST + 2, READ_MOST + 500):
            self.read_fault(["@a", "A" * many, "0" * many], 1, READ_MOST)

    def test_no_letter_around_the_first_one_too_many(self):
        long = "A" * (READ_MOST + 3)
        for at, column in [(7, 7), (999, 999), (1000, 1000), (1001, 1000), (1002, 1000)]:
            self.read_fault(["@a", with_sign(long, at, "x"), "0" * len(long)], 1, column)
        self.read_fault(["@a", "A" * READ_MOST + "x", "0" * READ_MOST], 1, 1000)
        self.read_fault(["@a", "A" * (READ_MOST - 1) + "x", "0" * READ_MOST], 1, 999)

    def test_too_few_marks(self):
        self.read_fault(["@a", "ACGT", "012"], 2, 3)
        self.read_fault(["@a", "ACGT", "0"], 2, 1)
        self.read_fault(["@a", "ACGT", ""], 2, 0)
        self.read_fault(["@a", "A", ""], 2, 0)
        self.read_fault(["@a", "A", "", "@b", "A", "0"], 2, 0)
        self.read_fault(["@a", "A" * READ_MOST, "0" * (READ_MOST - 1)], 2, READ_MOST - 1)

    def test_too_many_marks(self):
        self.read_fault(["@a", "ACGT", "01234"], 2, 4)
        self.read_fault(["@a", "ACGT", "0123456789"], 2, 4)
        self.read_fault(["@a", "A", "01"], 2, 1)
        self.read_fault(["@a", "A" * READ_MOST, "0" * (READ_MOST + 1)], 2, READ_MOST)

    def test_no_mark(self):
        for sign in NO_MARKS:
            self.read_fault(["@a", "A", sign], 2, 0)
            self.read_fault(["@a", "ACGT", sign + "123"], 2, 0)
            self.read_fault(["@a", "ACGT", "012" + sign], 2, 3)
            self.read_fault(["@a", "ACGT", "0" + sign + "2" + sign], 2, 1)

    def test_no_mark_around_the_first_one_too_many(self):
        self.read_fault(["@a", "ACGT", "01!3456"], 2, 2)
        self.read_fault(["@a", "ACGT", "012!456"], 2, 3)
        self.read_fault(["@a", "ACGT", "0123!56"], 2, 4)
        self.read_fault(["@a", "ACGT", "01234!6"], 2, 4)
        self.read_fault(["@a", "ACGT", "012345!"], 2, 4)
        self.read_fault(["@a", "ACGT", "0123!"], 2, 4)

    def test_no_mark_among_too_few(self):
        self.read_fault(["@a", "ACGT", "!12"], 2, 0)
        self.read_fault(["@a", "ACGT", "01!"], 2, 2)

    def test_lines_end(self):
        self.read_fault(["@a"], 1, 0)
        self.read_fault(["@a", "ACGT"], 2, 0)
        self.read_fault(["@a", "ACGT", "0000", "@" + NAME], 4, 0)
        self.read_fault(["@a", "ACGT", "0000", "@b", "A"], 5, 0)

    def test_the_first_wrong_line_counts(self):
        self.read_fault(["a", "x", "!"], 0, 0)
        self.read_fault(["@a-", "x", "!"], 0, 2)
        self.read_fault(["@a", "Ax", "!"], 1, 1)
        self.read_fault(["@a", "AC", "0!", "b"], 2, 1)
        self.read_fault(["@a", "AC", "000", "@"], 2, 2)
        self.read_fault(["@a", "AC", "00", "@", "x"], 3, 1)


if __name__ == "__main__":
    unittest.main()
