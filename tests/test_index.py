"""The joined sequence and its index: points 11 and 13 to 15, and what of point 1 reaches them."""

import copy
import inspect
import itertools
import random
import unittest

from homereads import index as module
from homereads.index import Index, joined

from plain import Plain, lists_of_references, many_references, random_text

NUMBERS = (1, 2, 3, 64, 1000, 5000)
SHORT_PIECES = ["".join(letters) for length in range(1, 4) for letters in itertools.product("ACGT", repeat=length)]
METHODS = {
    "length": [], "last": [], "count": ["symbol", "row"], "step": ["row"], "start": ["row"],
    "interval": ["piece"], "places": ["piece"],
}


def pieces_for(plain):
    """Pieces that occur once, often and nowhere, some across two references, some longer than the sequence."""
    source = random.Random(plain.length)
    found = {piece for _, text in plain.references for piece in text.split("N")}
    pieces = SHORT_PIECES + sorted(found - {""})
    for _ in range(30):
        text = source.choice(plain.references)[1]
        begin = source.randrange(len(text))
        pieces.append(text[begin:begin + source.randint(1, 12)])
    for (_, first), (_, second) in zip(plain.references[:5], plain.references[1:6]):
        pieces += [first + second, first[-1] + second[0], first[-2:] + second[:2]]
    pieces += ["A" * plain.length, "A" * (plain.length + 1), random_text(source, plain.length + 5)]
    return [piece for piece in pieces if piece and "N" not in piece]


class JoinedTest(unittest.TestCase):
    def test_by_hand(self):
        cases = [
            (["ACGTN"], [2, 3, 4, 5, 6, 0]),
            (["A"], [2, 0]),
            (["N"], [6, 0]),
            (["ACAC", "CAC"], [2, 3, 2, 3, 1, 3, 2, 3, 0]),
            (["A", "C", "G"], [2, 1, 3, 1, 4, 0]),
            (["AC", "AC", "AC"], [2, 3, 1, 2, 3, 1, 2, 3, 0]),
            (["T", "T"], [5, 1, 5, 0]),
            (["NN", "A", "TG"], [6, 6, 1, 2, 1, 5, 4, 0]),
        ]
        for texts, expected in cases:
            with self.subTest(texts=texts):
                before = list(texts)
                sequence = joined(texts)
                self.assertEqual(sequence, expected)
                self.assertIs(type(sequence), list)
                self.assertEqual(texts, before)
                sequence.append(7)
                self.assertEqual(joined(texts), expected)

    def test_lists_of_references(self):
        for name, references in [*lists_of_references().items(), ("many", many_references())]:
            with self.subTest(references=name):
                self.assertEqual(joined([text for _, text in references]), Plain(references).sequence)

    def test_longest(self):
        sequence = joined(["A" * 100000, "T" * 99998])
        self.assertEqual(sequence, [2] * 100000 + [1] + [5] * 99998 + [0])


class AnswersTest(unittest.TestCase):
    """All answers of indexes are those of a plain sort and a plain search."""

    def check_rows(self, index, plain):
        self.assertEqual(index.length(), plain.length)
        self.assertIs(type(index.length()), int)
        self.assertEqual(index.last(), plain.last)
        self.assertIs(type(index.last()), list)
        self.assertEqual([index.step(row) for row in range(plain.length)], plain.steps)
        self.assertEqual([index.start(row) for row in range(plain.length)], plain.rows)

    def check_counts(self, index, plain):
        for symbol in range(7):
            expected = [0, *itertools.accumulate(int(other == symbol) for other in plain.last)]
            self.assertEqual([index.count(symbol, row) for row in range(plain.length + 1)], expected)

    def check_piece(self, index, plain, piece):
        interval = index.interval(piece)
        self.assertIs(type(interval), tuple)
        expected = plain.interval(piece)
        if expected is None:
            low, high = interval
            self.assertEqual(low, high)
            self.assertTrue(0 <= low <= plain.length)
        else:
            self.assertEqual(interval, expected)
        places = index.places(piece)
        self.assertEqual(places, plain.places(piece))
        self.assertIs(type(places), list)
        self.assertEqual({type(place) for place in places} - {tuple}, set())

    def check_all(self, index, plain):
        self.check_rows(index, plain)
        self.check_counts(index, plain)
        self.assertEqual(index.interval(""), (0, plain.length))
        for piece in pieces_for(plain):
            self.check_piece(index, plain, piece)

    def test_each_block_and_sample(self):
        for name, references in lists_of_references().items():
            plain = Plain(references)
            for block, sample in itertools.product(NUMBERS, repeat=2):
                with self.subTest(references=name, block=block, sample=sample):
                    index = Index(references, block=block, sample=sample)
                    self.assertEqual((index.block, index.sample), (block, sample))
                    self.check_rows(index, plain)
                    self.check_counts(index, plain)

    def test_pieces(self):
        for name, references in lists_of_references().items():
            plain = Plain(references)
            for block, sample in zip(NUMBERS, (16, *NUMBERS)):
                with self.subTest(references=name, block=block, sample=sample):
                    self.check_all(Index(references, block=block, sample=sample), plain)

    def test_many_references(self):
        references = many_references()
        plain = Plain(references)
        for block, sample in [(64, 16), (1, 1), (3, 2), (1000, 64), (5000, 3)]:
            with self.subTest(block=block, sample=sample):
                self.check_all(Index(references, block=block, sample=sample), plain)

    def test_block_and_sample_around_the_length(self):
        references = [("a", "ACGTNAC"), ("b", "TTAC")]
        plain = Plain(references)
        self.assertEqual(plain.length, 13)
        for block, sample in itertools.product((6, 12, 13, 14), repeat=2):
            with self.subTest(block=block, sample=sample):
                self.check_all(Index(references, block=block, sample=sample), plain)

    def test_example(self):
        index = Index([("a", "ACAC"), ("b", "CAC")], block=3, sample=2)
        self.assertEqual(index.places("CA"), [(0, 1), (1, 0)])
        self.assertEqual(index.interval("AC"), (2, 5))
        self.assertEqual(index.last(), [3, 3, 3, 3, 0, 2, 2, 1, 2])

    def test_by_hand(self):
        # The rows of 2 3 1 2 0 begin at 4 (0), 2 (1), 3 (2 0), 0 (2 3), 1 (3).
        index = Index([("a", "AC"), ("b", "A")])
        self.assertEqual(index.length(), 5)
        self.assertEqual([index.start(row) for row in range(5)], [4, 2, 3, 0, 1])
        self.assertEqual(index.last(), [2, 3, 1, 0, 2])
        self.assertEqual([index.step(row) for row in range(5)], [2, 4, 1, 0, 3])
        self.assertEqual([index.count(2, row) for row in range(6)], [0, 1, 1, 1, 1, 2])
        self.assertEqual((index.interval("A"), index.interval("AC"), index.interval("C")), ((2, 4), (3, 4), (4, 5)))
        self.assertEqual((index.places("A"), index.places("C"), index.places("CA")), ([(0, 0), (1, 0)], [(0, 1)], []))

    def test_places_ascend(self):
        index = Index([("b", "ACA"), ("a", "CACA"), ("c", "CA")], sample=3)
        self.assertEqual(index.places("CA"), [(0, 1), (1, 0), (1, 2), (2, 0)])
        self.assertEqual(index.places("A"), [(0, 0), (0, 2), (1, 1), (1, 3), (2, 1)])

    def test_pieces_across_references(self):
        index = Index([("a", "AAC"), ("b", "GTT")])
        for piece in ("CG", "AACGTT", "ACG", "CGT", "TTA", "TA"):
            low, high = index.interval(piece)
            self.assertEqual(low, high)
            self.assertEqual(index.places(piece), [])

    def test_random_references(self):
        source = random.Random(15)
        for _ in range(60):
            letters = source.choice(["AC", "ACGT", "ACGTN", "AN"])
            many = source.randint(1, 5)
            references = [(f"r{at}", random_text(source, source.randint(1, 25), letters)) for at in range(many)]
            index = Index(references, block=source.randint(1, 20), sample=source.randint(1, 20))
            with self.subTest(references=references):
                self.check_all(index, Plain(references))

    def test_asked_in_another_order(self):
        source = random.Random(16)
        references = lists_of_references()["random"]
        plain = Plain(references)
        index = Index(references, block=3, sample=4)
        rows = range(plain.length)
        asked = [("start", (row,), plain.rows[row]) for row in rows]
        asked += [("step", (row,), plain.steps[row]) for row in rows]
        asked += [("count", (symbol, row), plain.count(symbol, row)) for symbol in range(7) for row in rows]
        asked += [("places", (piece,), plain.places(piece)) for piece in SHORT_PIECES]
        asked += [("interval", (piece,), plain.interval(piece) or index.interval(piece)) for piece in SHORT_PIECES]
        asked += [("last", (), plain.last), ("length", (), plain.length)]
        for _ in range(3):
            source.shuffle(asked)
            for name, arguments, expected in asked:
                self.assertEqual(getattr(index, name)(*arguments), expected, (name, arguments))


class AttributesTest(unittest.TestCase):
    def test_set_when_created(self):
        references = [("a", "ACG"), ("b", "T")]
        index = Index(references)
        self.assertEqual((index.references, index.block, index.sample), (references, 64, 16))
        self.assertIs(type(index.references), list)
        self.assertEqual([type(reference) for reference in index.references], [tuple, tuple])
        index = Index(references, sample=5)
        self.assertEqual((index.block, index.sample), (64, 5))
        index = Index(references, block=5)
        self.assertEqual((index.block, index.sample), (5, 16))
        index = Index(references=references, sample=1000, block=1)
        self.assertEqual((index.block, index.sample), (1, 1000))

    def test_references_are_copied(self):
        references = [("a", "ACAC"), ("b", "CAC")]
        index = Index(references)
        self.assertIsNot(index.references, references)
        index.references.append(("c", "T"))
        self.assertEqual(references, [("a", "ACAC"), ("b", "CAC")])
        self.assertEqual(index.length(), 9)

    def test_keyword_only(self):
        with self.assertRaises(TypeError):
            Index([("a", "A")], 64)
        with self.assertRaises(TypeError):
            Index([("a", "A")], 64, 16)


class ListsTest(unittest.TestCase):
    """Nothing is changed by an index, or by what is done to the lists around it."""

    def setUp(self):
        self.references = [("a", "ACAC"), ("b", "CAC"), ("c", "NNT")]
        self.plain = Plain(list(self.references))

    def answers(self, index):
        rows = range(index.length())
        return copy.deepcopy((
            index.references, index.block, index.sample, index.length(), index.last(),
            [index.step(row) for row in rows], [index.start(row) for row in rows],
            [index.count(symbol, row) for symbol in range(7) for row in rows],
            [index.interval(piece) for piece in SHORT_PIECES], [index.places(piece) for piece in SHORT_PIECES],
        ))

    def test_passed_list_stays(self):
        before = list(self.references)
        self.answers(Index(self.references, block=2, sample=3))
        self.assertEqual(self.references, before)

    def test_passed_list_changed(self):
        index = Index(self.references, block=2, sample=3)
        before = self.answers(index)
        self.references[0] = ("x", "GGGGGGG")
        self.assertEqual(self.answers(index), before)
        self.references.clear()
        self.assertEqual(self.answers(index), before)

    def test_returned_lists_changed(self):
        index = Index(self.references, block=2, sample=3)
        before = self.answers(index)
        for returned in (index.last(), index.places("AC"), index.places("G"), index.places("T"), index.kept_starts()):
            returned.reverse()
            returned.append((5, 5))
            self.assertEqual(self.answers(index), before)
            returned.clear()
            self.assertEqual(self.answers(index), before)
        self.assertEqual(index.last(), self.plain.last)

    def test_two_indexes(self):
        first = Index(self.references, block=2, sample=3)
        before = self.answers(first)
        other_references = [("a", "GGT"), ("b", "A" * 30)]
        second = Index(other_references, block=5, sample=1)
        other = self.answers(second)
        self.assertEqual(self.answers(first), before)
        self.assertEqual(self.answers(second), other)
        self.assertEqual(self.answers(Index(self.references, block=2, sample=3)), before)
        self.assertEqual(self.answers(Index(other_references, block=5, sample=1)), other)


class KeptTest(unittest.TestCase):
    def test_kept_starts(self):
        for references in lists_of_references().values():
            plain = Plain(references)
            for sample in NUMBERS:
                expected = [start for start in plain.rows if start % sample == 0]
                self.assertEqual(Index(references, sample=sample).kept_starts(), expected)


class LargeTest(unittest.TestCase):
    def test_longest_sequence(self):
        source = random.Random(17)
        texts = [random_text(source, 100000, "ACGT" * 30 + "N"), random_text(source, 99998)]
        index = Index([("a", texts[0]), ("b", texts[1])])
        self.assertEqual(index.length(), 200000)
        for _ in range(300):
            number = source.randrange(2)
            begin = source.randrange(90000)
            piece = texts[number][begin:begin + source.randint(5, 300)]
            if "N" not in piece:
                expected = [(at, place) for at in range(2) for place in plain_places(texts[at], piece)]
                self.assertIn((number, begin), expected)
                self.assertEqual(index.places(piece), expected)

    def test_longest_sequence_of_equal_letters(self):
        index = Index([("a", "A" * 99999), ("b", "A" * 99999)], block=1000, sample=1000)
        self.assertEqual(index.length(), 200000)
        self.assertEqual(index.interval("A" * 99999), (199998, 200000))
        self.assertEqual(index.places("A" * 99998), [(0, 0), (0, 1), (1, 0), (1, 1)])
        self.assertEqual(index.places("A" * 100000), [])

    def test_most_references(self):
        references = [(f"r{at}", "ACGT"[at % 4]) for at in range(65535)]
        index = Index(references)
        self.assertEqual(index.length(), 131070)
        self.assertEqual(index.places("G"), [(at, 0) for at in range(2, 65535, 4)])
        self.assertEqual(index.places("GT"), [])


def plain_places(text, piece):
    place = text.find(piece)
    while place >= 0:
        yield place
        place = text.find(piece, place + 1)


class InterfaceTest(unittest.TestCase):
    def test_names_and_arguments(self):
        self.assertEqual(joined.__module__, module.__name__)
        self.assertEqual(list(inspect.signature(joined).parameters), ["texts"])
        self.assertEqual(Index.__module__, module.__name__)
        parameters = inspect.signature(Index).parameters.values()
        self.assertEqual([(each.name, each.kind, each.default) for each in parameters], [
            ("references", inspect.Parameter.POSITIONAL_OR_KEYWORD, inspect.Parameter.empty),
            ("block", inspect.Parameter.KEYWORD_ONLY, 64),
            ("sample", inspect.Parameter.KEYWORD_ONLY, 16),
        ])

    def test_methods_stand_in_the_class(self):
        for name, arguments in METHODS.items():
            with self.subTest(method=name):
                self.assertIn(name, vars(Index))
                self.assertEqual(list(inspect.signature(vars(Index)[name]).parameters), ["self", *arguments])


if __name__ == "__main__":
    unittest.main()
