"""Piles of records on a reference (points 35 to 37)."""

from homereads.letters import LETTERS, agree, turned
from homereads.paths import joined_path

_GAPS = 5
_EXTRAS = 6


class Pile:
    """What records say about the positions of the text of a reference."""

    def __init__(self, text):
        self._text = text
        # For each position, and for the one behind the last letter: the sums of the marks in the order of the
        # letters, then the gaps and the extras.
        self._sums = [[0] * (_EXTRAS + 1) for _ in range(len(text) + 1)]

    def add(self, record, read):
        """Add the record of a read, a tuple (name, text, marks)."""
        _, _, strand, position, _, _, _, cut_path = record
        _, letters, marks = read
        if strand == 1:
            letters = turned(letters)
            marks = marks[::-1]
        at = 0
        for step in joined_path(cut_path):
            if step == "I":
                self._sums[position][_EXTRAS] += 1
            elif step == "D":
                self._sums[position][_GAPS] += 1
            else:
                self._sums[position][LETTERS.index(letters[at])] += marks[at]
            if step != "D":
                at += 1
            if step != "I":
                position += 1

    def sums(self, position):
        """Return the tuple of the sums of the marks of A, C, G, T and N, of the gaps and of the extras."""
        return tuple(self._sums[position])

    def told(self, position):
        """Return the told letter of a position, or None."""
        marks = self._sums[position][:_GAPS]
        largest = max(marks[:-1])
        if 2 * largest > sum(marks):
            return LETTERS[marks.index(largest)]
        return None

    def differences(self):
        """Return the list of the differences, tuples (position, letter, told letter)."""
        found = []
        for position, letter in enumerate(self._text):
            told = self.told(position)
            if told is not None and not agree(letter, told):
                found.append((position, letter, told))
        return found

    def mended(self):
        """Return the mended text."""
        letters = list(self._text)
        for position, _, told in self.differences():
            letters[position] = told
        return "".join(letters)
