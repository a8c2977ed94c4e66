"""Letters: points 2 to 4, and the symbols of point 11."""

import inspect
import itertools
import unittest

from homereads import letters
from homereads.letters import agree, symbol, symbols_of, text_of, turned


class AgreeTest(unittest.TestCase):
    def test_every_two_letters(self):
        agreeing = [("A", "A"), ("C", "C"), ("G", "G"), ("T", "T")]
        for pair in itertools.product("ACGTN", repeat=2):
            with self.subTest(pair=pair):
                self.assertIs(agree(*pair), pair in agreeing)


class SymbolTest(unittest.TestCase):
    def test_each_letter(self):
        self.assertEqual([symbol(letter) for letter in "ACGTN"], [2, 3, 4, 5, 6])

    def test_texts(self):
        for text, symbols in [("", []), ("ACGTN", [2, 3, 4, 5, 6]), ("NNA", [6, 6, 2])]:
            self.assertEqual(symbols_of(text), symbols)
            self.assertEqual(text_of(symbols), text)


class TurnedTest(unittest.TestCase):
    def test_example(self):
        self.assertEqual(turned("AACGN"), "NCGTT")

    def test_texts(self):
        cases = [
            ("", ""), ("A", "T"), ("C", "G"), ("G", "C"), ("T", "A"), ("N", "N"),
            ("ACGTN", "NACGT"), ("ACGT", "ACGT"), ("AAC", "GTT"), ("NNA", "TNN"),
        ]
        for text, expected in cases:
            with self.subTest(text=text):
                self.assertEqual(turned(text), expected)

    def test_turned_twice(self):
        for length in range(5):
            for text in map("".join, itertools.product("ACGTN", repeat=length)):
                self.assertEqual(turned(turned(text)), text)

    def test_the_longest_reference(self):
        self.assertEqual(turned("A" * 99999 + "C"), "G" + "T" * 99999)


class InterfaceTest(unittest.TestCase):
    def test_names_and_arguments(self):
        expected = [(agree, ["first", "second"]), (turned, ["text"]), (symbol, ["letter"])]
        for function, names in expected:
            with self.subTest(function=function.__name__):
                self.assertEqual(function.__module__, letters.__name__)
                self.assertEqual(list(inspect.signature(function).parameters), names)


if __name__ == "__main__":
    unittest.main()
