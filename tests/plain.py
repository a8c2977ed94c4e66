"""What points 11 to 14 say, by a plain sort and a plain search, and the references that the tests use."""

import random

SYMBOLS = {"A": 2, "C": 3, "G": 4, "T": 5, "N": 6}


def random_text(source, length, letters="ACGT"):
    return "".join(source.choices(letters, k=length))


def lists_of_references():
    """Lists of references by what is special about them."""
    source = random.Random(11)
    return {
        "one letter": [("a", "G")],
        "one letter N": [("a", "N")],
        "one reference": [("one", "ACGTACCAGT")],
        "the example": [("a", "ACAC"), ("b", "CAC")],
        "one letter each": [("a", "T"), ("b", "A"), ("c", "N"), ("d", "A"), ("e", "C")],
        "equal names": [("a", "ACGTT"), ("a", "TTGCA"), ("a", "A")],
        "equal texts": [("a", "ACGAC"), ("b", "ACGAC"), ("a", "ACGAC"), ("a", "ACGAC")],
        "beginnings": [("a", "ACGAC"), ("b", "ACG"), ("c", "ACGACG"), ("d", "AC"), ("e", "GACGAC")],
        "with N": [("a", "NACGNNTAN"), ("b", "NNN"), ("c", "TNT"), ("d", "CGATNTA")],
        "alike": [("a", "A" * 70)],
        "alike, several": [("a", "A" * 20), ("b", "A" * 21), ("c", "AA")],
        "random": [(f"r{at}", random_text(source, source.randint(1, 60), "ACGTN")) for at in range(6)],
        "repeated": [("a", "ACG" * 20), ("b", "CGA" * 15 + "T"), ("c", "GAC" * 10)],
    }


def many_references():
    """More references than one byte counts."""
    source = random.Random(12)
    return [(f"r{at}", random_text(source, source.randint(1, 4))) for at in range(300)]


class Plain:
    """All answers of an index of these references."""

    def __init__(self, references):
        self.references = references
        self.sequence = []
        for at, (_, text) in enumerate(references):
            self.sequence += [SYMBOLS[letter] for letter in text]
            self.sequence.append(0 if at + 1 == len(references) else 1)
        self.length = len(self.sequence)
        self.rows = sorted(range(self.length), key=lambda start: self.sequence[start:])
        self.last = [self.sequence[start - 1] for start in self.rows]
        row_of = {start: row for row, start in enumerate(self.rows)}
        self.steps = [row_of[start - 1 if start > 0 else self.length - 1] for start in self.rows]

    def count(self, symbol, row):
        return sum(1 for other in self.last[:row] if other == symbol)

    def interval(self, piece):
        """The interval of a piece, or None if it begins no row."""
        symbols = [SYMBOLS[letter] for letter in piece]
        found = [row for row, start in enumerate(self.rows) if self.sequence[start:start + len(piece)] == symbols]
        return (found[0], found[-1] + 1) if found else None

    def places(self, piece):
        return [(number, at) for number, (_, text) in enumerate(self.references)
                for at in range(len(text)) if text.startswith(piece, at)]
