"""Indexes as byte lists: points 16 and 17, and what of point 1 reaches them."""

import copy
import inspect
import itertools
import random
import unittest
import zlib

from homereads import storing
from homereads.errors import Damaged, NotAnIndex, Truncated
from homereads.index import Index
from homereads.storing import read_index, sum_of, write_index

from plain import Plain, lists_of_references, many_references, random_text

NUMBERS = (1, 2, 3, 64, 1000, 5000)
PIECES = ["".join(letters) for length in range(1, 5) for letters in itertools.product("ACGT", repeat=length)]
LONG_NAME = "0123456789ABCDEFGHIJKLMNOPQRSTUVWXYZabcd"


def number(value, size):
    return list(value.to_bytes(size, "big"))


def with_sum(data):
    """A byte list and its sum, which is the one that zlib calls Adler-32."""
    return data + number(zlib.adler32(bytes(data)), 4)


def written(references, block, sample):
    """The written form, worked out from point 16 without the program."""
    plain = Plain(references)
    data = [72, 82, 1] + number(block, 2) + number(sample, 2) + number(len(references), 2)
    for name, text in references:
        data += [len(name), *name.encode("ascii"), *number(len(text), 4)]
    digits = "".join(str(symbol) for symbol in plain.last)
    digits += "0" * (len(digits) % 2)
    data += bytes.fromhex(digits)
    for start in plain.rows:
        if start % sample == 0:
            data += number(start, 4)
    return with_sum(data)


class SumTest(unittest.TestCase):
    def test_by_hand(self):
        cases = [
            ([], 1),
            ([0], 65536 + 1),
            ([1], 2 * 65536 + 2),
            ([255], 256 * 65536 + 256),
            ([0, 0], 2 * 65536 + 1),
            ([1, 2], (2 + 4) * 65536 + 4),
            ([2, 1], (3 + 4) * 65536 + 4),
        ]
        for data, expected in cases:
            with self.subTest(data=data):
                self.assertEqual(sum_of(data), expected)
                self.assertIs(type(sum_of(data)), int)

    def test_around_the_modulos(self):
        # 257 bytes of 255 are 65535, 256 of them 65280: with the 1 at the beginning, 65536 and 65281.
        self.assertEqual(sum_of([255] * 257) % 65536, 65536 - 65521)
        self.assertEqual(sum_of([255] * 256 + [239]) % 65536, 65520)
        self.assertEqual(sum_of([255] * 256 + [240]) % 65536, 0)
        self.assertEqual(sum_of([255] * 256 + [241]) % 65536, 1)
        self.assertEqual(sum_of([0] * 65520), 65520 * 65536 + 1)
        self.assertEqual(sum_of([0] * 65521), 1)
        self.assertEqual(sum_of([0] * 65522), 65536 + 1)
        for many in (22, 23, 24, 255, 256, 257, 258, 65520, 65521, 65522, 100000):
            self.assertEqual(sum_of([255] * many), zlib.adler32(b"\xff" * many))

    def test_random_bytes(self):
        source = random.Random(18)
        for _ in range(300):
            data = list(source.randbytes(source.randrange(2000)))
            self.assertEqual(sum_of(data), zlib.adler32(bytes(data)))

    def test_one_byte_changed(self):
        source = random.Random(19)
        data = list(source.randbytes(400))
        for at in range(len(data)):
            changed = data[:at] + [(data[at] + source.randint(1, 255)) % 256] + data[at + 1:]
            self.assertNotEqual(sum_of(changed), sum_of(data))
        self.assertNotEqual(sum_of(data[1:2] + data[:1] + data[2:]), sum_of(data))

    def test_list_stays(self):
        data = [5, 255, 0]
        sum_of(data)
        self.assertEqual(data, [5, 255, 0])


class WriteTest(unittest.TestCase):
    def test_an_odd_number_of_symbols_by_hand(self):
        # The rows of 2 3 1 2 0 begin at 4, 2, 3, 0, 1; the last column is 2 3 1 0 2.
        head = [72, 82, 1, 0, 64, 0, 2, 0, 2]
        references = [1, 97, 0, 0, 0, 2, 3, 48, 90, 122, 0, 0, 0, 1]
        starts = [0, 0, 0, 4, 0, 0, 0, 2, 0, 0, 0, 0]
        index = Index([("a", "AC"), ("0Zz", "A")], sample=2)
        self.assertEqual(write_index(index), with_sum(head + references + [0x23, 0x10, 0x20] + starts))

    def test_an_even_number_of_symbols_by_hand(self):
        # The rows of 2 6 5 0 begin at 3, 0, 2, 1; the last column is 5 0 6 2.
        head = [72, 82, 1, 3, 232, 0, 1, 0, 1]
        starts = [0, 0, 0, 3, 0, 0, 0, 0, 0, 0, 0, 2, 0, 0, 0, 1]
        index = Index([("b", "ANT")], block=1000, sample=1)
        self.assertEqual(write_index(index), with_sum(head + [1, 98, 0, 0, 0, 3] + [0x50, 0x62] + starts))

    def test_the_sum_by_hand(self):
        # The rows of 4 0 begin at 1, 0; the last column is 4 0.
        data = [72, 82, 1, 0, 1, 0, 3, 0, 1, 1, 65, 0, 0, 0, 1, 64, 0, 0, 0, 0]
        sums = list(itertools.accumulate([1] + data))
        self.assertEqual(sums[-1], 256 + 36)
        self.assertEqual(sum(sums[1:]), 15 * 256 + 253)
        self.assertEqual(write_index(Index([("A", "G")], block=1, sample=3)), data + [15, 253, 1, 36])

    def test_each_block_and_sample(self):
        for name, references in lists_of_references().items():
            for block, sample in itertools.product(NUMBERS, repeat=2):
                with self.subTest(references=name, block=block, sample=sample):
                    index = Index(references, block=block, sample=sample)
                    data = write_index(index)
                    self.assertEqual(data, written(references, block, sample))
                    self.assertIs(type(data), list)
                    self.assertEqual({type(byte) for byte in data}, {int})

    def test_names(self):
        for references in ([(LONG_NAME, "AC")], [("efghijklmnopqrstuvwxyz", "T"), ("Q", "A"), (LONG_NAME, "A")]):
            self.assertEqual(write_index(Index(references)), written(references, 64, 16))

    def test_more_than_a_byte_counts(self):
        source = random.Random(20)
        references = many_references()
        self.assertEqual(write_index(Index(references)), written(references, 64, 16))
        references = [("a", random_text(source, 300)), ("b", random_text(source, 600))]
        self.assertEqual(write_index(Index(references, block=256, sample=257)), written(references, 256, 257))

    def test_written_twice(self):
        index = Index([("a", "ACAC"), ("b", "CAC")], block=3, sample=2)
        data = write_index(index)
        before = list(data)
        self.assertEqual(write_index(index), before)
        data.reverse()
        data.clear()
        self.assertEqual(write_index(index), before)

    def test_index_stays(self):
        references = [("a", "ACAC"), ("b", "CAC")]
        index = Index(references, block=3, sample=2)
        write_index(index)
        self.assertEqual((index.references, index.block, index.sample), (references, 3, 2))
        self.assertEqual(index.places("CA"), [(0, 1), (1, 0)])
        self.assertEqual(index.last(), [3, 3, 3, 3, 0, 2, 2, 1, 2])


class ReadTest(unittest.TestCase):
    def check_same(self, index, other):
        self.assertIs(type(index), Index)
        self.assertEqual(index.references, other.references)
        self.assertIs(type(index.references), list)
        self.assertEqual({type(reference) for reference in index.references}, {tuple})
        self.assertEqual((index.block, index.sample), (other.block, other.sample))
        self.assertEqual(index.length(), other.length())
        self.assertEqual(index.last(), other.last())
        rows = range(other.length())
        self.assertEqual([index.step(row) for row in rows], [other.step(row) for row in rows])
        self.assertEqual([index.start(row) for row in rows], [other.start(row) for row in rows])
        for symbol, row in itertools.product(range(7), range(other.length() + 1)):
            self.assertEqual(index.count(symbol, row), other.count(symbol, row))
        for piece in PIECES:
            self.assertEqual(index.interval(piece), other.interval(piece))
            self.assertEqual(index.places(piece), other.places(piece))
        self.assertEqual(index.interval(""), other.interval(""))

    def check(self, references, block, sample):
        index = Index(references, block=block, sample=sample)
        data = write_index(index)
        before = list(data)
        read = read_index(data)
        self.assertEqual(data, before)
        self.check_same(read, index)
        self.assertEqual(write_index(read), before)
        # The list that was read may be changed, too.
        data.clear()
        self.assertEqual(write_index(read), before)

    def test_each_list_of_references(self):
        for name, references in lists_of_references().items():
            for block, sample in [(64, 16), (1, 1), (2, 3), (3, 2), (1000, 64), (5000, 1000), (64, 5000)]:
                with self.subTest(references=name, block=block, sample=sample):
                    self.check(references, block, sample)

    def test_names(self):
        self.check([(LONG_NAME, "AC"), ("efghijklmnopqrstuvwxyz", "T"), ("Q", "A")], 64, 16)

    def test_many_references(self):
        self.check(many_references(), 64, 16)

    def test_what_the_test_wrote(self):
        references = [("a", "ACAC"), ("b", "CAC")]
        index = read_index(written(references, 3, 2))
        self.assertEqual(index.references, references)
        self.assertEqual(index.places("CA"), [(0, 1), (1, 0)])
        self.assertEqual(index.interval("AC"), (2, 5))
        self.assertEqual(index.last(), [3, 3, 3, 3, 0, 2, 2, 1, 2])

    def test_two_read_from_one_list(self):
        data = written([("a", "ACAC"), ("b", "CAC")], 3, 2)
        first = read_index(data)
        second = read_index(data)
        first.references.clear()
        first.last().clear()
        self.assertEqual(second.references, [("a", "ACAC"), ("b", "CAC")])
        self.assertEqual(first.places("CA"), [(0, 1), (1, 0)])
        self.assertEqual(second.places("CA"), [(0, 1), (1, 0)])

    def test_longest_sequence(self):
        source = random.Random(21)
        references = [("a", random_text(source, 100000, "ACGTN")), ("b", random_text(source, 99998))]
        data = write_index(Index(references))
        index = read_index(data)
        self.assertEqual(index.references, references)
        self.assertEqual(write_index(index), data)

    def test_most_references(self):
        references = [(f"r{at}", "ACGTN"[at % 5]) for at in range(65535)]
        data = write_index(Index(references))
        self.assertEqual(data[7:9], [255, 255])
        index = read_index(data)
        self.assertEqual(index.references, references)
        self.assertEqual(write_index(index), data)


class FaultsTest(unittest.TestCase):
    """The cases of point 17."""

    def setUp(self):
        self.references = [("a", "ACACG"), ("bcd", "CNCT")]
        self.data = written(self.references, 3, 2)
        # The numbers of this index: 9 bytes of head, 6 and 8 of references, 6 of symbols, 24 of starts, 4 of sum.
        self.column_at = 23
        self.sum_at = 53
        self.assertEqual(len(self.data), 57)

    def fault(self, error, data):
        with self.subTest(data=data[:80], error=error.__name__):
            before = list(data)
            with self.assertRaises(ValueError) as caught:
                read_index(data)
            self.assertIs(type(caught.exception), error)
            self.assertEqual(data, before)

    def changed(self, *changes):
        """The written form with other bytes from some positions on, and with its sum."""
        data = self.data[:self.sum_at]
        for at, replaced in changes:
            data[at:at + len(replaced)] = replaced
        return with_sum(data)

    def test_it_is_right(self):
        self.assertEqual(read_index(self.data).references, self.references)
        self.assertEqual(self.changed(), self.data)

    def test_first_bytes(self):
        for at in range(3):
            for byte in range(256):
                if byte != self.data[at]:
                    self.fault(NotAnIndex, self.changed((at, [byte])))
        for data in ([0], [71], [73], [255], [82], [72, 81], [72, 83], [0, 82], [72, 0], [72, 82, 0], [72, 82, 2],
                     [72, 0, 1], [0, 82, 1], [1, 82, 72], [72, 1], [72, 72], [72, 82, 82]):
            self.fault(NotAnIndex, data)
            self.fault(NotAnIndex, data + [0])
            self.fault(NotAnIndex, data + [0] * 40)

    def test_fewer_than_9_bytes(self):
        for data in ([], [72], [72, 82], [72, 82, 1]):
            self.fault(Truncated, data)
        for length in range(9):
            self.fault(Truncated, self.data[:length])
            self.fault(Truncated, ([72, 82, 1] + [255] * 6)[:length])
            # The zeros are told only if all of the head is there.
            self.fault(Truncated, ([72, 82, 1] + [0] * 6)[:length])

    def test_zeros(self):
        for at in (3, 5, 7):
            self.fault(Damaged, self.changed((at, [0, 0])))
            self.fault(Damaged, self.data[:at] + [0, 0] + self.data[at + 2:])
        self.fault(Damaged, self.changed((3, [0] * 6)))
        self.fault(Damaged, [72, 82, 1, 0, 0, 0, 0, 0, 0])
        self.fault(Damaged, [72, 82, 1, 0, 0, 0, 1, 0, 1])
        self.fault(Damaged, [72, 82, 1, 0, 1, 0, 0, 0, 1])
        self.fault(Damaged, [72, 82, 1, 0, 1, 0, 1, 0, 0])
        self.fault(Damaged, with_sum([72, 82, 1, 0, 1, 0, 1, 0, 0]))
        # No zeros: only one of two bytes is 0.
        self.fault(Truncated, [72, 82, 1, 0, 1, 0, 1, 0, 1])
        self.fault(Truncated, [72, 82, 1, 1, 0, 1, 0, 1, 0])

    def test_cut_off_anywhere(self):
        for references, block, sample in [(self.references, 3, 2), ([("a", "G")], 1, 1), ([("a", "GT")], 64, 1000),
                                          (many_references()[:20], 64, 16)]:
            data = written(references, block, sample)
            for length in range(len(data)):
                self.fault(Truncated, data[:length])

    def test_cut_off_with_a_sum(self):
        for length in range(9, self.sum_at):
            self.fault(Truncated, with_sum(self.data[:length]))

    def test_numbers_that_tell_more(self):
        for many in (3, 4, 255, 256, 65535):
            self.fault(Truncated, self.changed((7, number(many, 2))))
        for length in (255, 200, 60):
            self.fault(Truncated, self.changed((9, [length])))
            self.fault(Truncated, self.changed((15, [length])))
        # With one letter more, the numbers would tell as many bytes as there are.
        for length in (7, 8, 255, 100000, 2 ** 31, 2 ** 32 - 1):
            self.fault(Truncated, self.changed((11, number(length, 4))))
        for length in (6, 7, 255, 100000, 2 ** 31, 2 ** 32 - 1):
            self.fault(Truncated, self.changed((19, number(length, 4))))
        self.fault(Truncated, self.changed((5, [0, 1])))
        # The name ends with the list, or the length of the text does.
        for data in ([1], [1, 97], [1, 97, 0, 0, 0], [1, 97, 0, 0, 0, 0], [0], [0, 0, 0, 0], [255] + [97] * 255):
            self.fault(Truncated, [72, 82, 1, 0, 1, 0, 1, 0, 1] + data)

    def test_one_symbol_more(self):
        # It needs no further byte of the last column, but one more kept start.
        data = written([("a", "AC"), ("b", "A")], 64, 5)
        self.assertEqual(data[14], 2)
        self.fault(Truncated, with_sum(data[:14] + [3] + data[15:-4]))
        # It needs one more byte of the last column, but no more kept starts.
        data = written([("a", "AC"), ("b", "AT")], 64, 8)
        self.assertEqual(data[14], 2)
        self.fault(Truncated, with_sum(data[:14] + [3] + data[15:-4]))

    def test_numbers_that_tell_less(self):
        for sample in (3, 10, 11, 1000, 65535):
            self.fault(Damaged, self.changed((5, number(sample, 2))))
        self.fault(Damaged, self.changed((7, [0, 1])))
        self.fault(Damaged, self.changed((11, number(1, 4))))
        self.fault(Damaged, self.changed((19, number(0, 4))))

    def test_bytes_behind_the_sum(self):
        for more in ([0], [255], [0] * 4, [1, 2, 3], self.data[-4:], self.data):
            self.fault(Damaged, self.data + more)
            self.fault(Damaged, with_sum(self.data + more))

    def test_wrong_sum(self):
        for at in range(self.sum_at, len(self.data)):
            for byte in {0, 1, 255, self.data[at] ^ 1, self.data[at] ^ 128} - {self.data[at]}:
                self.fault(Damaged, self.data[:at] + [byte] + self.data[at + 1:])

    def test_each_byte_changed(self):
        for at in range(self.sum_at):
            for byte in {0, 1, 255, self.data[at] ^ 1, self.data[at] ^ 128} - {self.data[at]}:
                data = self.data[:at] + [byte] + self.data[at + 1:]
                with self.subTest(at=at, byte=byte):
                    with self.assertRaises(ValueError) as caught:
                        read_index(data)
                    expected = [NotAnIndex] if at < 3 else [Truncated, Damaged]
                    self.assertIn(type(caught.exception), expected)
                    # The block, the names, the column and the starts tell no other length.
                    if at in (3, 4, 10, 16, 17, 18) or at >= self.column_at:
                        self.assertIs(type(caught.exception), Damaged)

    def test_the_first_in_the_order_counts(self):
        wrong = self.data[:1] + [0] + self.data[2:]
        self.fault(NotAnIndex, wrong[:3])
        self.fault(NotAnIndex, wrong[:8])
        self.fault(NotAnIndex, wrong[:3] + [0] * 6 + wrong[9:])
        self.fault(NotAnIndex, wrong[:30])
        self.fault(NotAnIndex, wrong + [0])
        # 0 ahead of all that the byte list is too short for, or too long, or has a wrong sum for.
        for at in (3, 5, 7):
            zero = self.data[:at] + [0, 0] + self.data[at + 2:]
            self.fault(Truncated, zero[:8])
            self.fault(Damaged, zero[:9])
            self.fault(Damaged, zero[:30])
            self.fault(Damaged, zero + [0])
        # Too short ahead of a wrong sum.
        self.fault(Truncated, self.data[:30] + [self.data[30] ^ 1] + self.data[31:-1])
        self.fault(Truncated, self.data[:-2] + [self.data[-2] ^ 1])


class InterfaceTest(unittest.TestCase):
    def test_names_and_arguments(self):
        for function, names in [(sum_of, ["data"]), (write_index, ["index"]), (read_index, ["data"])]:
            with self.subTest(function=function.__name__):
                self.assertEqual(function.__module__, storing.__name__)
                self.assertEqual(list(inspect.signature(function).parameters), names)


if __name__ == "__main__":
    unittest.main()
