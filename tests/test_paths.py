"""Paths, their costs and their cut forms: points 25 and 26, and what of point 1 reaches them."""

import inspect
import itertools
import random
import unittest

from homereads import paths
from homereads.paths import best_alignment, cut, fits, joined_path, path_cost

from plain import random_text
from plain_changes import every_path, plain_cost

COSTS = (4, 6, 1)


def drawn_paths(source):
    """Paths with runs of all sorts."""
    for most in (1, 2, 5, 12, 150):
        for _ in range(60):
            yield "".join(source.choice("=XID") * source.randint(1, most) for _ in range(source.randrange(12)))


class PathCostTest(unittest.TestCase):
    def test_by_hand(self):
        cases = [
            ("", 0),
            ("=", 0), ("X", 4), ("I", 7), ("D", 7),
            ("====", 0), ("XX", 8), ("III", 9), ("DD", 8),
            # A run of `I` next to a run of `D` are two runs.
            ("ID", 14), ("DI", 14), ("IIDD", 16), ("IDI", 21), ("DDIIID", 8 + 9 + 7),
            # Other steps divide a run.
            ("I=I", 14), ("IXI", 18), ("D=D", 14), ("II==II", 16), ("ID=DI", 28), ("IDXDI", 32),
            ("==XIID=", 19), ("X=X", 8), ("=I=D=X=", 18), ("I=", 7), ("=I", 7),
        ]
        for path, expected in cases:
            with self.subTest(path=path):
                self.assertEqual(path_cost(path, COSTS), expected)
                self.assertIs(type(path_cost(path, COSTS)), int)

    def test_each_cost(self):
        for path in ("", "=", "X", "I", "D", "XIIDDD=XI"):
            self.assertEqual(path_cost(path, (0, 0, 0)), 0)
        for costs, expected in [((1, 0, 0), 2), ((0, 1, 0), 3), ((0, 0, 1), 6), ((100, 0, 0), 200), ((0, 100, 0), 300),
                                ((0, 0, 100), 600), ((100, 100, 100), 1100), ((5, 0, 3), 28), ((2, 9, 0), 31)]:
            self.assertEqual(path_cost("XIIDDD=XI", costs), expected)

    def test_drawn(self):
        source = random.Random(61)
        for path in drawn_paths(source):
            costs = tuple(source.choice([0, 1, 2, 7, 30, 100]) for _ in range(3))
            self.assertEqual(path_cost(path, costs), plain_cost(path, costs))
        self.assertEqual(path_cost("I" * 1000 + "D" * 100000, (0, 2, 3)), 303004)


class FitsTest(unittest.TestCase):
    def check(self, read, text, path, expected):
        with self.subTest(read=read, text=text, path=path):
            self.assertIs(fits(read, text, path), expected)

    def test_paths(self):
        for read, text, path in [
            ("", "", ""), ("A", "A", "="), ("A", "C", "X"), ("A", "", "I"), ("", "A", "D"),
            ("N", "N", "X"), ("N", "A", "X"), ("A", "N", "X"), ("N", "", "I"), ("", "N", "D"),
            ("A", "A", "ID"), ("A", "A", "DI"), ("AC", "AC", "=="), ("AC", "AC", "=ID"), ("AC", "CA", "I=D"),
            ("AC", "CA", "D=I"), ("ACGT", "AGTT", "=I==D"), ("ACGTN", "CGAN", "I==XX"),
        ]:
            self.check(read, text, path, True)

    def test_others(self):
        for read, text, path in [
            # A step too many, or one too few.
            ("", "", "="), ("", "", "X"), ("", "", "I"), ("", "", "D"),
            ("A", "A", "=="), ("A", "A", "=X"), ("A", "A", "=I"), ("A", "A", "=D"), ("A", "A", ""),
            ("AC", "AC", "="), ("AC", "AC", "==="), ("A", "C", "XX"),
            # Steps over the end of the read only, or of the text only.
            ("A", "AC", "=="), ("A", "AC", "=X"), ("AC", "A", "=="), ("AC", "A", "=X"),
            ("A", "A", "II"), ("A", "A", "DD"), ("A", "A", "IDI"), ("A", "A", "IDD"),
            # What is left over.
            ("AC", "A", "="), ("A", "AC", "="), ("A", "", ""), ("", "A", ""), ("A", "A", "I"), ("A", "A", "D"),
            # Other letters, unknown ones, and agreeing ones.
            ("A", "C", "="), ("N", "N", "="), ("A", "N", "="), ("N", "A", "="), ("A", "A", "X"), ("AC", "AC", "=X"),
            # Characters that are no steps.
            ("A", "A", "M"), ("A", "A", "i"), ("A", "A", "1="), ("A", "A", "= "), ("A", "A", " "), ("A", "A", "A"),
            ("A", "C", "x"), ("A", "", "i"), ("", "A", "d"), ("", "", " "), ("", "", "\n"), ("", "", "\0"),
            ("A", "A", "\u2550"), ("A", "A", "\ud800"), ("A", "A", "\U0001f600"), ("A", "A", "\uff1d"),
        ]:
            self.check(read, text, path, False)

    def test_each_short_string(self):
        texts = ["", "A", "N", "AC", "CA", "NA", "AA"]
        for read, text in itertools.product(texts, repeat=2):
            known = set(every_path(read, text))
            for length in range(6):
                for steps in itertools.product("=XIDN", repeat=length):
                    path = "".join(steps)
                    self.assertIs(fits(read, text, path), path in known, (read, text, path))

    def test_drawn(self):
        source = random.Random(62)
        for _ in range(60):
            read = random_text(source, source.randrange(5), "ACN")
            text = random_text(source, source.randrange(5), "ACN")
            known = set(every_path(read, text))
            for path in known:
                self.assertIs(fits(read, text, path), True)
                at = source.randrange(len(path) + 1)
                other = path[:at] + source.choice(["", "=", "X", "I", "D", "?"]) + path[at + source.randrange(2):]
                self.assertIs(fits(read, text, other), other in known, (read, text, other))

    def test_long(self):
        self.check("A" * 1000, "A" * 100000, "D" * 99000 + "=" * 1000, True)
        self.check("A" * 1000, "A" * 100000, "D" * 98999 + "=" * 1000, False)
        self.check("A" * 1000, "A" * 100000, "=" * 100000, False)


class CutTest(unittest.TestCase):
    def check(self, path, cut_path):
        self.assertEqual(cut(path), cut_path)
        self.assertEqual(joined_path(cut_path), path)

    def test_by_hand(self):
        for path, cut_path in [
            ("", ""), ("=", "1="), ("X", "1X"), ("I", "1I"), ("D", "1D"), ("==XIID=", "2=1X2I1D1="),
            ("=" * 9, "9="), ("=" * 10, "10="), ("=" * 11, "11="), ("X" * 99, "99X"), ("I" * 100, "100I"),
            ("D" * 101, "101D"), ("=" * 1000, "1000="), ("D" * 100000, "100000D"),
            ("=" * 10 + "X" + "D" * 100 + "=" * 9, "10=1X100D9="), ("IDID", "1I1D1I1D"), ("XX=XX", "2X1=2X"),
        ]:
            with self.subTest(cut_path=cut_path):
                self.check(path, cut_path)

    def test_example(self):
        self.assertEqual((path_cost("==XIID=", (4, 6, 1)), cut("==XIID=")), (19, '2=1X2I1D1='))

    def test_drawn(self):
        for path in drawn_paths(random.Random(63)):
            expected = "".join(f"{len(list(run))}{step}" for step, run in itertools.groupby(path))
            self.check(path, expected)


class InterfaceTest(unittest.TestCase):
    def test_names_and_arguments(self):
        for function, arguments in [
            (path_cost, ["path", "costs"]), (fits, ["read", "text", "path"]), (cut, ["path"]),
            (joined_path, ["cut_path"]), (best_alignment, ["read", "text", "end", "costs"]),
        ]:
            self.assertEqual(function.__module__, paths.__name__)
            self.assertEqual(list(inspect.signature(function).parameters), arguments)


if __name__ == "__main__":
    unittest.main()
