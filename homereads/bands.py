"""The tables of point 28, worked out in a band: they tell best alignments, and they are papers.

From a cell to an end, a path leaves out at least as many letters as the rest of the read and the rest of the text
differ in length. The band holds the cells at which they differ by at most `width`. All other cells stand as low as any
cell may: 0 in P, and what a run costs without its letters in Q and R. What comes from there to the end costs at least
as much as to leave out `width + 1` letters. So if the tables show less than that, an alignment in the band costs what
they show.
"""

from homereads.letters import agree


class Band:
    """The three tables (P, Q, R) of a read at the ends of a text from low to high, worked out in a band.

    Of each row, only the numbers in the band are kept, and one more on each side, so that each cell of the band has
    neighbours. A cell has the same index in them as the cell `(i - 1, j - 1)` has in the row above.
    """

    def __init__(self, read, text, low, high, costs, width):
        _, start, _ = costs
        self._lowest = (0, start, start)
        self._size = high - low + 2 * width + 3
        self._first = low - len(read) - width - 1
        self._rows = [tuple([[number] * self._size for number in self._lowest])]
        for i, letter in enumerate(read, start=1):
            first = self._first + i
            behind = min(high, first + self._size - 2)
            others = text[max(0, first):max(0, behind)]
            self._rows.append(_next_row(self._rows[-1], letter, others, costs, first))

    def cost(self, end):
        """Return what the tables show for an end."""
        return min(self.cell(len(self._rows) - 1, end))

    def cell(self, i, j):
        """Return the tuple of the numbers of a cell in the band."""
        at = j - i - self._first
        return tuple([numbers[at] for numbers in self._rows[i]])

    def table(self, which, end):
        """Return one of the whole tables for an end: 0 is P, 1 is Q, and 2 is R."""
        return [self._whole_row(i, which, end) for i in range(len(self._rows))]

    def _whole_row(self, i, which, end):
        """Return a row of one of the whole tables."""
        first = self._first + i
        low = max(0, first)
        behind = max(low, min(end + 1, first + self._size))
        whole = [self._lowest[which]] * (end + 1)
        whole[low:behind] = self._rows[i][which][low - first:behind - first]
        return whole


def exact_band(read, text, low, high, costs):
    """Return a band whose tables show the costs of best alignments of a read at the ends of a text from low to high."""
    width = 0
    band = Band(read, text, low, high, costs, width)
    while not _is_wide_enough(band, len(read), low, high, costs, width):
        width = 2 * width + 1
        band = Band(read, text, low, high, costs, width)
    return band


def _is_wide_enough(band, many, low, high, costs, width):
    """Return whether a band shows the costs of best alignments of a read of so many letters."""
    _, start, each = costs
    for end in range(low, high + 1):
        # No best alignment costs more than to leave out the whole read: if the tables show that, it is best, too.
        if start + (width + 1) * each <= band.cost(end) < start + many * each:
            return False
    return True


def _next_row(above, letter, others, costs, first):
    """Return the row below the given one, the first number of which stands for the position `first`.

    The letter is that of the read, the others are those of the text that it may be paired with in the band.
    """
    replace, start, each = costs
    new = start + each
    pairs_above, reads_above, texts_above = above
    pairs = [0] * len(pairs_above)
    reads = [start] * len(pairs_above)
    texts = [start] * len(pairs_above)
    zero = -first
    if 0 < zero < len(pairs) - 1:
        # At the position 0, only Q bounds something. P and R get numbers that make no difference beside it.
        reads[zero] = each + reads_above[zero + 1]
        pairs[zero] = reads[zero]
        texts[zero] = reads[zero] + start
    for at, other in enumerate(others, start=max(0, zero) + 1):
        ahead = min(pairs_above[at], reads_above[at], texts_above[at])
        pairs[at] = ahead if agree(letter, other) else ahead + replace
        up = at + 1
        reads[at] = min(new + pairs_above[up], new + texts_above[up], each + reads_above[up])
        left = at - 1
        texts[at] = min(new + pairs[left], new + reads[left], each + texts[left])
    return pairs, reads, texts
