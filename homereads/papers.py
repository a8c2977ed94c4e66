"""Papers, which show that no alignment costs less than a number (points 28 and 29)."""

from homereads.bands import exact_band
from homereads.letters import agree


def paper(read, text, end, costs):
    """Return a paper that holds and shows the cost of a best alignment of a read at an end of a text."""
    band = exact_band(read, text, end, end, costs)
    return band.table(0, end), band.table(1, end), band.table(2, end)


def shown(read, text, end, costs, paper):
    """Return what a paper shows, or None if it does not hold or its tables do not have the right sizes."""
    if not _has_sizes(paper, len(read) + 1, end + 1):
        return None
    # What bounds something is at most so large if the paper holds: more than that bounds nothing.
    most = (len(read) + end) * sum(costs)
    rows = _bounding_rows(paper, most)
    if max(rows[0][0]) > 0 or not _leaves_text_out(rows[0], costs):
        return None
    for i, letter in enumerate(read, start=1):
        above = rows[i - 1]
        weights = [0 if agree(letter, other) else costs[0] for other in text[:end]]
        if not (_pairs(above, rows[i], weights) and _leaves_read_out(above, rows[i], costs)):
            return None
        if not _leaves_text_out(rows[i], costs):
            return None
    return min([numbers[end] for numbers in rows[-1]])


def _has_sizes(paper, height, width):
    """Return whether each table has so many rows with so many numbers each."""
    for table in paper:
        if len(table) != height or [row for row in table if len(row) != width]:
            return False
    return True


def _bounding_rows(paper, most):
    """Return the rows of the three tables side by side, with this number in each cell that bounds nothing."""
    pairs, reads, texts = paper
    rows = [(pairs[0], [most] * len(reads[0]), [most] + texts[0][1:])]
    for i in range(1, len(pairs)):
        rows.append(([most] + pairs[i][1:], reads[i], [most] + texts[i][1:]))
    return rows


def _pairs(above, row, weights):
    """Return whether the conditions for P hold in a row."""
    pairs_above, reads_above, texts_above = above
    pairs, _, _ = row
    for j, weight in enumerate(weights):
        if pairs[j + 1] > weight + min(pairs_above[j], reads_above[j], texts_above[j]):
            return False
    return True


def _leaves_read_out(above, row, costs):
    """Return whether the conditions for Q hold in a row."""
    _, start, each = costs
    pairs_above, reads_above, texts_above = above
    _, reads, _ = row
    for j, number in enumerate(reads):
        if number > each + min(start + pairs_above[j], reads_above[j], start + texts_above[j]):
            return False
    return True


def _leaves_text_out(row, costs):
    """Return whether the conditions for R hold in a row."""
    _, start, each = costs
    pairs, reads, texts = row
    for j in range(1, len(texts)):
        if texts[j] > each + min(start + pairs[j - 1], start + reads[j - 1], texts[j - 1]):
            return False
    return True
