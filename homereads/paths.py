"""Paths, their costs and cut forms, and best alignments (points 25 to 27)."""

from homereads.bands import exact_band
from homereads.letters import agree


def path_cost(path, costs):
    """Return the cost of a path."""
    replace, start, each = costs
    cost = 0
    for step, many in _runs(path):
        if step == "X":
            cost += many * replace
        elif step != "=":
            cost += start + many * each
    return cost


def fits(read, text, path):
    """Return whether a string is a path from the whole text to the whole read."""
    read_at = 0
    text_at = 0
    for step in path:
        if step == "I":
            read_at += 1
        elif step == "D":
            text_at += 1
        elif read_at < len(read) and text_at < len(text) and step == _pair_step(read[read_at], text[text_at]):
            read_at += 1
            text_at += 1
        else:
            return False
    return read_at == len(read) and text_at == len(text)


def cut(path):
    """Return the cut form of a path."""
    return "".join([f"{many}{step}" for step, many in _runs(path)])


def joined_path(cut_path):
    """Return the path of a cut form."""
    parts = []
    begin = 0
    for at, character in enumerate(cut_path):
        if not character.isdigit():
            parts.append(int(cut_path[begin:at]) * character)
            begin = at + 1
    return "".join(parts)


def best_alignment(read, text, end, costs):
    """Return a best alignment of a read at an end of a text, a tuple (begin, path, cost)."""
    return best_alignments(read, text, end, end, costs)[0]


def best_alignments(read, text, low, high, costs):
    """Return the list of a best alignment for each end from low to high."""
    band = exact_band(read, text, low, high, costs)
    return [_alignment_in_band(band, read, text, end, costs) for end in range(low, high + 1)]


def _runs(path):
    """Return the list of the longest runs of one character, as pairs (character, length)."""
    runs = []
    begin = 0
    for behind in range(1, len(path) + 1):
        if behind == len(path) or path[behind] != path[begin]:
            runs.append((path[begin], behind - begin))
            begin = behind
    return runs


def _pair_step(first, second):
    """Return the step for a pair of letters."""
    return "=" if agree(first, second) else "X"


def _alignment_in_band(band, read, text, end, costs):
    """Return a best alignment at an end, by tables that show its cost."""
    _, start, each = costs
    cost = band.cost(end)
    if cost == start + len(read) * each:
        return end, "I" * len(read), cost
    begin, path = _path_in_band(band, read, text, end, costs)
    return begin, path, cost


def _path_in_band(band, read, text, end, costs):
    """Return the begin and the path of an alignment in the band that costs what its tables show."""
    _, start, each = costs
    new = start + each
    i = len(read)
    j = end
    steps = []
    # What P and Q have to be at the cell, if the path comes from there at the least cost. If neither is, it is R.
    wanted = (band.cost(end), band.cost(end))
    while i > 0 and j > 0:
        pair, out_of_read, out_of_text = band.cell(i, j)
        if pair == wanted[0]:
            steps.append(_pair_step(read[i - 1], text[j - 1]))
            ahead = pair - path_cost(steps[-1], costs)
            wanted = (ahead, ahead)
            i -= 1
            j -= 1
        elif out_of_read == wanted[1]:
            steps.append("I")
            wanted = (out_of_read - new, out_of_read - each)
            i -= 1
        else:
            steps.append("D")
            wanted = (out_of_text - new, out_of_text - new)
            j -= 1
    # Ahead of the text, the letters of the read can only be left out.
    return j, "I" * i + "".join(reversed(steps))
