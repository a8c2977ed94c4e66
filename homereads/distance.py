"""The least numbers of changes between a read and a text (points 18 and 19).

In the table of the least changes, the row `i` stands for the first `i` letters of the read, and the column `j` for
the first `j` letters of the text. Neighbours in it differ by at most 1, so a column is kept as two integers: `rising`
has the bit `i` if the row `i + 1` is larger than the row `i`, `falling` if it is smaller. A few steps with all bits at
once lead from a column to the next one, which is what makes long texts possible.
"""

from homereads.letters import LETTERS


def distance(read, text):
    """Return the distance of two texts."""
    # The row 0 grows by 1 in each column: there, all letters of the text are left out.
    return len(read) + sum(_growths(read, text, 1))


def ends(read, text, k):
    """Return the list of the tuples (end, changes) for all ends at which the distance is at most `k`."""
    changes = len(read)
    found = []
    if changes <= k:
        found.append((0, changes))
    # The row 0 grows by 0: the read may begin at any position of the text.
    for end, growth in enumerate(_growths(read, text, 0), start=1):
        changes += growth
        if changes <= k:
            found.append((end, changes))
    return found


def _growths(read, text, top):
    """Return, for each column from 1 on, by how much the last row grows in it, if the row 0 grows by `top`."""
    many = len(read)
    full = (1 << many) - 1
    agreeing = _agreeing_rows(read)
    rising = full
    falling = 0
    growths = []
    for letter in text:
        same = agreeing[letter]
        # The bits of the rows that are equal to the row above them in the column before. From a row whose letter
        # agrees, the sum carries this down through the rows that rise.
        carried = ((same & rising) + rising) ^ rising
        level = (carried | same | falling) & full
        # What has become larger and smaller since the column before, with the bit `i` for the row `i` itself.
        larger = ((falling | (full ^ (level | rising))) << 1) | top
        smaller = (level & rising) << 1
        growths.append((larger >> many) - (smaller >> many))
        rising = (smaller & full) | (full ^ ((level | larger) & full))
        falling = level & larger
    return growths


def _agreeing_rows(read):
    """Return, for each letter, an integer with the bit `i` if the letter `i` of the read agrees with it."""
    rows = {letter: 0 for letter in LETTERS}
    for at, letter in enumerate(read):
        if letter != "N":
            rows[letter] |= 1 << at
    return rows
