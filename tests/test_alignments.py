"""Best alignments: point 27, and that of point 29 which tells that there is one."""

import itertools
import random
import unittest

from homereads.paths import best_alignment, best_alignments, fits, path_cost

from plain import random_text
from plain_changes import (
    COSTS, distances_by_columns, drawn_case, every_path, least_cost, least_of_every_path, plain_cost,
)


class BestAlignmentTest(unittest.TestCase):
    def check(self, read, text, end, costs, least):
        found = best_alignment(read, text, end, costs)
        self.assertIs(type(found), tuple)
        begin, path, cost = found
        told = (read, text, end, costs, found)
        self.assertEqual((type(begin), type(path), type(cost)), (int, str, int), told)
        self.assertTrue(0 <= begin <= end, told)
        self.assertTrue(fits(read, text[begin:end], path), told)
        self.assertEqual(path_cost(path, costs), cost, told)
        self.assertEqual(plain_cost(path, costs), cost, told)
        self.assertEqual(cost, least, told)
        self.assertEqual(best_alignment(read, text, end, costs), found)

    def test_by_hand(self):
        cases = [
            ("ACGT", "TTACGTT", 6, (4, 6, 1), (2, "====", 0)),
            ("ACGT", "ACGT", 4, (4, 6, 1), (0, "====", 0)),
            ("ACGT", "GGACTTGG", 6, (4, 6, 1), (2, "==X=", 4)),
            ("ACGTACGT", "GGACGACGTGG", 9, (9, 2, 1), (2, "===I====", 3)),
            ("ACGTACGT", "GGACGTTACGTGG", 11, (9, 1, 1), None),
            ("ANGT", "ANGT", 4, (4, 6, 1), (0, "=X==", 4)),
            ("A", "C", 1, (4, 1, 2), (1, "I", 3)),
            ("ACG", "", 0, (4, 6, 1), (0, "III", 9)),
            ("ACG", "ACGACG", 0, (4, 6, 1), (0, "III", 9)),
            ("ACGTACGTACTG", "ACGTACGTACGGGGTG", 16, (50, 4, 1), (0, "==========DDDD==", 8)),
            ("ACGTACGTACGGGGTG", "TTTACGTACGTACTG", 15, (50, 4, 1), (3, "==========IIII==", 8)),
        ]
        for read, text, end, costs, expected in cases:
            with self.subTest(read=read, text=text, end=end, costs=costs):
                if expected is not None:
                    self.assertEqual(best_alignment(read, text, end, costs), expected)
                self.check(read, text, end, costs, least_cost(read, text, end, costs))

    def test_left_out_on_both_sides(self):
        """A run of `I` next to a run of `D` may cost less than letters that do not agree; its start is paid twice."""
        ahead, behind = "ACCACACCA", "CAACCAACA"
        read, text = ahead + "GGG" + behind, ahead + "TTT" + behind
        begin, path, cost = best_alignment(read, text, len(text), (10, 2, 1))
        self.assertEqual((begin, path[:9], path[-9:], cost), (0, "=" * 9, "=" * 9, 10))
        self.assertEqual("".join(sorted(path[9:-9])), "DDDIII")
        self.check(read, text, len(text), (3, 2, 1), 9)
        for costs in COSTS:
            self.check(read, text, len(text), costs, least_cost(read, text, len(text), costs))

    def test_every_path_of_small_texts(self):
        source = random.Random(64)
        for costs in COSTS:
            for _ in range(12):
                read, text, end = drawn_case(source, 4)
                if len(text) < 8:
                    least = least_of_every_path(read, text, end, costs)
                    self.assertEqual(least_cost(read, text, end, costs), least)
                    self.check(read, text, end, costs, least)

    def test_each_pair_of_tiny_texts(self):
        reads = ["".join(letters) for length in (1, 2, 3) for letters in itertools.product("AN", repeat=length)]
        texts = ["", "A", "N", "AN", "NA", "AAA", "ANA"]
        paths = {(read, text): list(every_path(read, text)) for read in reads for text in texts}
        paths.update({(read, text[begin:]): list(every_path(read, text[begin:]))
                      for read in reads for text in texts for begin in range(len(text))})
        for costs in COSTS:
            for read, text in itertools.product(reads, texts):
                least = min(plain_cost(path, costs)
                            for begin in range(len(text) + 1) for path in paths[read, text[begin:]])
                self.check(read, text, len(text), costs, least)

    def test_drawn(self):
        source = random.Random(65)
        for at in range(900):
            read, text, end = drawn_case(source, source.choice([6, 12, 25]))
            costs = COSTS[at % len(COSTS)]
            self.check(read, text, end, costs, least_cost(read, text, end, costs))

    def test_repeated_beginnings(self):
        """Where a read begins with the same letters again and again, it fits within a run of `D`, too."""
        self.check("TATATCCATCC", "GTATATCTCCATCC", 14, (9, 3, 1), 5)
        self.check("AGAAGAACAAGGTA", "ACAGAAGAAGCCACAAGGTA", 20, (9, 3, 1), 7)
        self.check("CACACACAAACGGCCCT", "CACACACAAAAAAACGGCCCT", 21, (4, 2, 1), 6)
        self.check("CACACACTAAA", "GCACACACAAATAAA", 15, (20, 1, 2), 7)
        source = random.Random(73)
        for at in range(600):
            letters = source.choice(["AC", "ACG", "AAC"])
            first = random_text(source, source.randint(1, 3), letters) * source.randint(1, 4)
            second = random_text(source, source.randint(4, 9))
            between = random_text(source, source.randint(1, 4), letters)
            texts = (first + second, first + between + second)
            costs = COSTS[at % len(COSTS)]
            for read, text in (texts, texts[::-1]):
                self.check(read, text, len(text), costs, least_cost(read, text, len(text), costs))

    def test_drawn_costs(self):
        source = random.Random(66)
        for _ in range(500):
            read, text, end = drawn_case(source, 14)
            costs = tuple(source.choice([0, 1, 2, 5, 20, 99, 100]) for _ in range(3))
            self.check(read, text, end, costs, least_cost(read, text, end, costs))

    def test_each_end(self):
        source = random.Random(67)
        for costs in COSTS:
            read, text, _ = drawn_case(source, 12)
            for end in range(len(text) + 1):
                self.check(read, text, end, costs, least_cost(read, text, end, costs))

    def test_several_ends_at_once(self):
        source = random.Random(72)
        for at in range(400):
            read, text, _ = drawn_case(source, source.choice([5, 12, 30]))
            low, high = sorted(source.choices(range(len(text) + 1), k=2))
            costs = COSTS[at % len(COSTS)]
            expected = [best_alignment(read, text, end, costs) for end in range(low, high + 1)]
            self.assertEqual(best_alignments(read, text, low, high, costs), expected, (read, text, low, high, costs))

    def test_end_zero(self):
        for costs in COSTS:
            for length in (1, 2, 5, 64):
                self.check("A" * length, "ACGT", 0, costs, costs[1] + length * costs[2])
                self.assertEqual(best_alignment("A" * length, "ACGT", 0, costs)[:2], (0, "I" * length))

    def test_long_gaps(self):
        source = random.Random(68)
        for length, gap in [(60, 1), (60, 20), (60, 59), (90, 45), (130, 100)]:
            read = random_text(source, length)
            middle = length // 2
            inserted = "GG" + read[:middle] + random_text(source, gap) + read[middle:]
            removed = "GG" + read[:10] + read[10 + gap:]
            for costs in [(4, 6, 1), (100, 0, 1), (100, 50, 1), (5, 100, 0), (30, 2, 2), (100, 100, 5), (1, 1, 1)]:
                for text in (inserted, removed):
                    self.check(read, text, len(text), costs, least_cost(read, text, len(text), costs))

    def test_larger(self):
        source = random.Random(69)
        text = random_text(source, 500, "ACGT" * 20 + "N")
        read = text[150:200] + text[206:250] + "GATTACA" + text[250:300]
        for costs in [(4, 6, 1), (1, 100, 1), (100, 1, 100), (2, 3, 0), (0, 5, 5)]:
            for end in (300, 297, 120):
                self.check(read, text, end, costs, least_cost(read, text, end, costs))

    def test_cost_of_changes(self):
        """With costs of 1, and nothing paid for a start, the cost is the distance at the end."""
        source = random.Random(70)
        for _ in range(100):
            read, text, _ = drawn_case(source, 30)
            for end, changes in enumerate(distances_by_columns(read, text)):
                self.assertEqual(best_alignment(read, text, end, (1, 0, 1))[2], changes)

    def test_longest(self):
        source = random.Random(71)
        text = random_text(source, 100000)
        read = text[98000:98400] + "G" + text[98400:98900] + text[98950:99049]
        self.assertEqual(len(read), 1000)
        for costs, least in [((100, 6, 1), 63), ((100, 0, 1), 51), ((100, 100, 100), 5300)]:
            begin, path, cost = best_alignment(read, text, 99049, costs)
            self.assertEqual((begin, cost), (98000, least))
            self.assertEqual([path.count(step) for step in "=XID"], [999, 0, 1, 50])
            self.assertTrue(fits(read, text[begin:99049], path))
            self.assertEqual(path_cost(path, costs), cost)
        read = random_text(source, 1000)
        begin, path, cost = best_alignment(read, text, 50000, (4, 6, 1))
        self.assertTrue(fits(read, text[begin:50000], path))
        self.assertEqual(path_cost(path, (4, 6, 1)), cost)
        self.assertLessEqual(cost, 1006)


if __name__ == "__main__":
    unittest.main()
