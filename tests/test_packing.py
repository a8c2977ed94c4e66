"""Packed texts: points 9 and 10, and what of point 1 reaches them."""

import inspect
import itertools
import random
import re
import unittest

from homereads import packing
from homereads.errors import InvalidPack
from homereads.packing import pack, unpack

MOST = 2 ** 32 - 1


def number(value):
    return list(value.to_bytes(4, "big"))


def packed(text):
    """The packed form of a text, worked out from point 9 without the program."""
    runs = [(match.start(), len(match.group())) for match in re.finditer("N+", text)]
    data = number(len(text)) + number(len(runs))
    for first, length in runs:
        data += number(first) + number(length)
    bits = "".join({"A": "00", "C": "01", "G": "10", "T": "11", "N": "00"}[letter] for letter in text)
    bits += "0" * (-len(bits) % 8)
    return data + [int(bits[at:at + 8], 2) for at in range(0, len(bits), 8)]


def form(length, runs, letters):
    """A byte list that tells these numbers, right or wrong."""
    data = number(length) + number(len(runs))
    for first, size in runs:
        data += number(first) + number(size)
    return data + letters


def text_of(length):
    return "".join("ACGTN"[(at * at // 3 + at // 7) % 5] for at in range(length))


class PackTest(unittest.TestCase):
    def check(self, text):
        data = pack(text)
        self.assertEqual(data, packed(text))
        self.assertIs(type(data), list)
        self.assertEqual({type(byte) for byte in data}, {int})
        self.assertEqual(unpack(data), text)

    def test_example(self):
        self.assertEqual(pack("ACGNN"), [0, 0, 0, 5, 0, 0, 0, 1, 0, 0, 0, 3, 0, 0, 0, 2, 24, 0])
        self.check("ACGNN")

    def test_bytes_by_hand(self):
        cases = {
            "": [0, 0, 0, 0, 0, 0, 0, 0],
            "A": [0, 0, 0, 1, 0, 0, 0, 0, 0],
            "C": [0, 0, 0, 1, 0, 0, 0, 0, 64],
            "G": [0, 0, 0, 1, 0, 0, 0, 0, 128],
            "T": [0, 0, 0, 1, 0, 0, 0, 0, 192],
            "N": [0, 0, 0, 1, 0, 0, 0, 1, 0, 0, 0, 0, 0, 0, 0, 1, 0],
            "ACGT": [0, 0, 0, 4, 0, 0, 0, 0, 27],
            "TGCA": [0, 0, 0, 4, 0, 0, 0, 0, 228],
            "TTTTC": [0, 0, 0, 5, 0, 0, 0, 0, 255, 64],
            "NTN": [0, 0, 0, 3, 0, 0, 0, 2, 0, 0, 0, 0, 0, 0, 0, 1, 0, 0, 0, 2, 0, 0, 0, 1, 48],
        }
        for text, expected in cases.items():
            with self.subTest(text=text):
                self.assertEqual(pack(text), expected)
                self.assertEqual(unpack(expected), text)

    def test_each_short_text(self):
        for length in range(6):
            for letters in itertools.product("ACGTN", repeat=length):
                self.check("".join(letters))

    def test_each_filling_of_the_last_byte(self):
        for length in range(10):
            for text in ("T" * length, "N" * length, "TGC" * length, text_of(length)):
                with self.subTest(text=text[:length]):
                    self.check(text[:length])

    def test_runs(self):
        for text in ("NNNACGT", "ACNNNGT", "ACGTNNN", "NACGT", "ACNGT", "ACGTN", "N", "NN", "N" * 40,
                     "NNANNCNNNG", "NANANANAN", "ANANANANA", "TTNNNNNNNNTT", "NNNNTTTTNNNN"):
            with self.subTest(text=text):
                self.check(text)

    def test_each_byte_of_a_number(self):
        for length in (255, 256, 257, 65535, 65536, 65537, 99999, 100000):
            with self.subTest(length=length):
                self.check("T" * length)
                self.check("N" * length)
                self.check("T" * (length - 1) + "N")
                self.check("N" + "T" * (length - 2) + "N")
                self.check(text_of(length))

    def test_many_runs(self):
        self.assertEqual(pack("NA" * 50000)[:8], [0, 1, 134, 160, 0, 0, 195, 80])
        self.check("NA" * 50000)
        self.check("AN" * 300)

    def test_somewhat_longer_texts(self):
        self.check("T" * 100001)
        self.check(text_of(100010))

    def test_random_texts(self):
        source = random.Random(9)
        for _ in range(500):
            letters = source.choice(["ACGTN", "ACGTNNNN", "AN", "TN"])
            self.check("".join(source.choices(letters, k=source.randrange(60))))

    def test_returned_and_passed_lists(self):
        data = pack("ACGNN")
        data[8:] = [1]
        self.assertEqual(pack("ACGNN"), packed("ACGNN"))
        for data in (packed("ACGNN"), packed(text_of(300)), packed(""), form(5, [(3, 3)], [24, 0]), [0, 0]):
            before = list(data)
            try:
                unpack(data)
            except InvalidPack:
                pass
            self.assertEqual(data, before)


class InvalidPackTest(unittest.TestCase):
    def fault(self, data):
        with self.subTest(data=data[:60]):
            with self.assertRaises(ValueError) as caught:
                unpack(data)
            self.assertIs(type(caught.exception), InvalidPack)

    def test_cut_off_anywhere(self):
        for text in ("", "A", "ACGT", "ACGTA", "N", "ACGNN", "NANANANAN", text_of(50)):
            data = packed(text)
            for length in range(len(data)):
                self.fault(data[:length])

    def test_bytes_left_over(self):
        for text in ("", "A", "ACGT", "ACGTA", "N", "ACGNN", "NANANANAN", text_of(50)):
            for more in ([0], [255], [0, 0], [0] * 4, [0] * 8, [0] * 16, packed(text)):
                self.fault(packed(text) + more)
                self.fault(more[:1] + packed(text))

    def test_wrong_length(self):
        self.assertEqual(unpack(form(5, [], [27, 0])), "ACGTA")
        for length in (0, 1, 3, 4, 9, 10, 255, 256, 100000, MOST - 3, MOST - 2, MOST - 1, MOST):
            self.fault(form(length, [], [27, 0]))
        for length in (1, 4, 5, 100000, MOST):
            self.fault(form(length, [], []))
            self.fault(form(length, [(0, length)], []))
        self.fault(form(0, [], [0]))
        # The last letters would be no part of the text: they are not 0.
        self.fault(form(3, [], [27]))
        self.fault(form(2, [], [27]))

    def test_wrong_number_of_runs(self):
        for text in ("ACGNN", "ACGT", "NANANANAN", ""):
            data = packed(text)
            for many in (0, 1, 2, 3, 4, 5, 6, 255, 256, 2 ** 16, 2 ** 24, 2 ** 31, MOST - 1, MOST):
                if number(many) != data[4:8]:
                    self.fault(data[:4] + number(many) + data[8:])
        # Eight bytes are a run or 32 letters.
        self.fault(form(5, [], [0, 0, 0, 3, 0, 0, 0, 2, 24, 0]))
        self.assertEqual(len(unpack(form(37, [], [0, 0, 0, 3, 0, 0, 0, 2, 24, 0]))), 37)

    def test_runs_that_are_empty(self):
        self.fault(form(5, [(3, 0)], [24, 0]))
        self.fault(form(5, [(0, 0)], [24, 0]))
        self.fault(form(5, [(5, 0)], [24, 0]))
        self.fault(form(5, [(0, 1), (3, 0)], [24, 0]))
        self.fault(form(5, [(1, 0), (3, 2)], [24, 0]))
        self.fault(form(0, [(0, 0)], []))

    def test_runs_out_of_order(self):
        self.assertEqual(unpack(form(9, [(0, 2), (4, 2), (8, 1)], [0, 0, 0])), "NNAANNAAN")
        for runs in itertools.permutations([(0, 2), (4, 2), (8, 1)]):
            if runs[0] != (0, 2) or runs[1] != (4, 2):
                self.fault(form(9, runs, [0, 0, 0]))

    def test_runs_that_overlap(self):
        for runs in ([(0, 3), (2, 2)], [(0, 3), (0, 3)], [(1, 4), (2, 1)], [(2, 2), (1, 4)], [(0, 1), (0, 2)],
                     [(0, 1), (3, 3), (5, 1)], [(0, 9), (8, 1)]):
            self.fault(form(9, runs, [0, 0, 0]))

    def test_runs_that_touch_one_another(self):
        self.assertEqual(unpack(form(9, [(0, 1), (2, 1)], [0, 0, 0])), "NANAAAAAA")
        for runs in ([(0, 1), (1, 1)], [(0, 3), (3, 6)], [(2, 3), (5, 1)], [(0, 1), (4, 2), (6, 1)]):
            self.fault(form(9, runs, [0, 0, 0]))

    def test_runs_beyond_the_text(self):
        self.assertEqual(unpack(form(5, [(4, 1)], [24, 0])), "ACGAN")
        for run in ((4, 2), (5, 1), (0, 6), (3, 3), (5, 4), (100000, 1), (3, MOST), (MOST, 1), (MOST, MOST),
                    (0, MOST), (0, 2 ** 31), (2 ** 31, 2 ** 31), (4, MOST - 3)):
            self.fault(form(5, [run], [0, 0]))
            self.fault(form(5, [(0, 1), run], [0, 0]))
        self.fault(form(0, [(0, 1)], []))

    def test_letters_within_a_run(self):
        # The five letters have the bits 11000000 00000000 and so on: a T at each of the positions in turn.
        for at in range(5):
            letters = [192 >> 2 * at, 0] if at < 4 else [0, 192]
            self.assertEqual(unpack(form(5, [], letters)), "A" * at + "T" + "A" * (4 - at))
            for first, size in itertools.product(range(5), range(1, 6)):
                if first <= at < first + size <= 5:
                    for bits in (1, 2, 3):
                        self.fault(form(5, [(first, size)], [byte // 3 * bits for byte in letters]))

    def test_filled_part_of_the_last_byte(self):
        for length in (1, 2, 3, 5, 6, 7):
            free = 8 - 2 * (length % 4)
            for filled in range(1, 2 ** free):
                self.fault(form(length, [], [0] * (length // 4) + [filled]))
                self.fault(form(length, [(0, length)], [0] * (length // 4) + [filled]))

    def test_a_run_in_the_filled_part(self):
        self.fault(form(5, [(5, 3)], [24, 0]))
        self.fault(form(5, [(3, 5)], [24, 0]))

    def test_exactly_the_packed_forms(self):
        forms = {tuple(packed("".join(letters))): "".join(letters)
                 for length in range(5) for letters in itertools.product("ACGTN", repeat=length)}
        some = [data for at, data in enumerate(sorted(forms)) if at % 5 == 0]
        taken = 0
        # One byte changed leaves one letter byte at the most, so the forms of all texts are among `forms`.
        for data in some:
            for at in range(len(data)):
                for byte in (0, 1, 2, 3, 4, 5, 12, 16, 64, 128, 192, 255):
                    changed = data[:at] + (byte,) + data[at + 1:]
                    if changed in forms:
                        taken += 1
                        self.assertEqual(unpack(list(changed)), forms[changed])
                    else:
                        with self.assertRaises(InvalidPack, msg=str(changed)):
                            unpack(list(changed))
        self.assertGreater(taken, 1000)

    def test_random_byte_lists(self):
        source = random.Random(10)
        taken = 0
        for _ in range(5000):
            length = source.randrange(13)
            runs = [(source.randrange(13), source.randrange(5)) for _ in range(source.randrange(3))]
            letters = source.choices([0, 0, 0, 27, 64, 3], k=(length + 3) // 4)
            data = form(length, runs, letters)
            text = None
            try:
                text = unpack(data)
            except InvalidPack:
                # No text has this form: the one that is told by the letters and the runs, neither.
                told = "".join("ACGT"[byte >> shift & 3] for byte in letters for shift in (6, 4, 2, 0))
                told = list(told[:length])
                for first, size in runs:
                    told[first:first + size] = ["N"] * size
                self.assertNotEqual(packed("".join(told)), data)
            if text is not None:
                taken += 1
                self.assertEqual(packed(text), data)
        self.assertGreater(taken, 100)


class InterfaceTest(unittest.TestCase):
    def test_names_and_arguments(self):
        for function, names in [(pack, ["text"]), (unpack, ["data"])]:
            with self.subTest(function=function.__name__):
                self.assertEqual(function.__module__, packing.__name__)
                self.assertEqual(list(inspect.signature(function).parameters), names)


if __name__ == "__main__":
    unittest.main()
