"""The joined sequence of references, and the index of it (points 11 and 13 to 15)."""

from homereads.letters import symbols_of
from homereads.suffixes import suffix_rows

_END = 0
_BORDER = 1
_MANY_SYMBOLS = 7


def joined(texts):
    """Return the joined sequence of a list of at least one text."""
    sequence = []
    for text in texts:
        sequence.extend(symbols_of(text))
        sequence.append(_BORDER)
    sequence[-1] = _END
    return sequence


class Index:
    """The index of a list of references, which are tuples (name, text)."""

    def __init__(self, references, *, block=64, sample=16):
        self.references = list(references)
        self.block = block
        self.sample = sample
        texts = [reference[1] for reference in references]
        sequence = joined(texts)
        rows = suffix_rows(sequence)
        # Ahead of the start 0 stands the last symbol: that is the one at the index -1.
        self._last = [sequence[start - 1] for start in rows]
        self._smaller = _smaller_symbols(sequence)
        self._counts = _counts_at_blocks(self._last, block)
        self._starts = {row: start for row, start in enumerate(rows) if start % sample == 0}
        self._begins = _begins_of(texts)

    def length(self):
        """Return the length of the joined sequence."""
        return len(self._last)

    def last(self):
        """Return the last column, a new list."""
        return list(self._last)

    def kept_starts(self):
        """Return the starts that are kept, in the order of their rows, a new list."""
        return list(self._starts.values())

    def count(self, symbol, row):
        """Return the count of a symbol before a row."""
        block = row // self.block
        return self._counts[block][symbol] + self._last[block * self.block:row].count(symbol)

    def step(self, row):
        """Return the row to which the step from a row leads."""
        return self._row_ahead(self._last[row], row)

    def start(self, row):
        """Return the start of a row."""
        # The start 0 is always kept, so the steps never lead around from there to the end of the sequence.
        steps = 0
        while row not in self._starts:
            row = self.step(row)
            steps += 1
        return self._starts[row] + steps

    def interval(self, piece):
        """Return the interval of a piece, a tuple."""
        low = 0
        high = self.length()
        # The piece is taken from its end: each letter leads from the rows that begin with what is behind it to
        # those that begin with the letter, too.
        for symbol in reversed(symbols_of(piece)):
            if low == high:
                break
            low = self._row_ahead(symbol, low)
            high = self._row_ahead(symbol, high)
        return low, high

    def places(self, piece):
        """Return the list of the places of a piece."""
        low, high = self.interval(piece)
        starts = sorted([self.start(row) for row in range(low, high)])
        return [self._place(start) for start in starts]

    def _row_ahead(self, symbol, row):
        """Return the row to which the step from a row leads, or would lead if it had this symbol."""
        return self._smaller[symbol] + self.count(symbol, row)

    def _place(self, start):
        """Return the pair of the reference that holds a position of the joined sequence, and the position in it."""
        low = 0
        high = len(self._begins)
        while high - low > 1:
            middle = (low + high) // 2
            if self._begins[middle] <= start:
                low = middle
            else:
                high = middle
        return low, start - self._begins[low]


def _smaller_symbols(sequence):
    """Return, for each symbol, how many symbols of the sequence are less."""
    smaller = [0]
    for symbol in range(_MANY_SYMBOLS - 1):
        smaller.append(smaller[symbol] + sequence.count(symbol))
    return smaller


def _counts_at_blocks(last, block):
    """Return, for each row that is a multiple of `block`, the list of the counts of all symbols before it."""
    counts = [[0] * _MANY_SYMBOLS]
    for behind in range(block, len(last) + 1, block):
        part = last[behind - block:behind]
        before = counts[-1]
        counts.append([before[symbol] + part.count(symbol) for symbol in range(_MANY_SYMBOLS)])
    return counts


def _begins_of(texts):
    """Return, for each text, the position in the joined sequence at which it begins."""
    begins = []
    begin = 0
    for text in texts:
        begins.append(begin)
        begin += len(text) + 1
    return begins
