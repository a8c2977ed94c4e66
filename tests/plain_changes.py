"""What points 18 to 27 and 32 say, by plain tables, plain searches and by trying everything."""

import functools
import itertools

from plain import random_text

BLOCKS_AND_SAMPLES = [(64, 16), (1, 1), (3, 2), (1000, 1000), (2, 7)]
# The usual costs, costs of 0, a large `start` and a small `each`, the other way round, and a large `replace`.
COSTS = [
    (4, 6, 1), (1, 1, 1), (0, 0, 0), (1, 0, 0), (0, 1, 0), (0, 0, 1), (1, 1, 0), (1, 0, 1), (0, 1, 1), (7, 0, 0),
    (7, 5, 0), (5, 100, 1), (5, 100, 0), (100, 100, 1), (5, 1, 100), (5, 0, 100), (1, 100, 100), (100, 0, 1),
    (100, 1, 0), (100, 3, 2), (3, 5, 7), (10, 20, 3), (100, 100, 100), (120, 130, 110),
]

OTHER = {"A": "T", "C": "G", "G": "C", "T": "A", "N": "N"}


def plain_agree(first, second):
    return first == second and first in "ACGT"


def plain_turned(text):
    return "".join(OTHER[letter] for letter in text)[::-1]


def drawn_reads(source, references):
    """Reads that come from the references, changed or not, and others."""
    reads = ["A", "N", "NN", "ANA", "ACGT", "AAAAAAAA"]
    for _ in range(12):
        text = source.choice(references)[1]
        begin = source.randrange(len(text))
        read = text[begin:begin + source.randint(1, 30)]
        at = source.randrange(len(read))
        reads += [read, read[:at] + source.choice("ACGTN") + read[at:], plain_turned(read)]
        reads.append(random_text(source, source.randint(1, 12), source.choice(["AC", "ACGT", "ACGTN"])))
    return reads


def drawn_case(source, longest):
    """A read, a text and an end; often, the read comes from the text with some letters put in or left out."""
    letters = source.choice(["ACGT", "ACGT", "ACGTN", "AC", "A", "AN"])
    read = random_text(source, source.randint(1, longest), letters)
    text = random_text(source, source.randrange(longest), letters)
    if source.randrange(3) > 0:
        first, second = sorted(source.choices(range(len(read) + 1), k=2))
        between = random_text(source, source.randrange(5), letters)
        behind = random_text(source, source.randrange(3), letters)
        text += source.choice([read[:first] + between + read[first:], read[:first] + read[second:], read]) + behind
    return read, text, source.choice([len(text), source.randint(0, len(text)), max(0, len(text) - 2)])


def plain_distance(read, text):
    """The distance by a table, row by row."""
    row = list(range(len(text) + 1))
    for i, letter in enumerate(read, start=1):
        above, row = row, [i]
        for j, other in enumerate(text, start=1):
            paired = above[j - 1] + (0 if plain_agree(letter, other) else 1)
            row.append(min(paired, above[j] + 1, row[j - 1] + 1))
    return row[-1]


def distances_by_begins(read, text):
    """The distance at each end, as the least one for all begins."""
    return [min(plain_distance(read, text[begin:end]) for begin in range(end + 1)) for end in range(len(text) + 1)]


def distances_by_columns(read, text):
    """The distance at each end, by one table in which a read may begin everywhere."""
    column = list(range(len(read) + 1))
    found = [column[-1]]
    for other in text:
        before, column = column, [0]
        for i, letter in enumerate(read, start=1):
            paired = before[i - 1] + (0 if plain_agree(letter, other) else 1)
            column.append(min(paired, before[i] + 1, column[i - 1] + 1))
        found.append(column[-1])
    return found


def plain_hits(references, read, k):
    """The hits by plain columns over whole texts."""
    found = []
    for number, (_, text) in enumerate(references):
        for strand, letters in enumerate((read, plain_turned(read))):
            for end, changes in enumerate(distances_by_columns(letters, text)):
                if changes <= k:
                    found.append((number, strand, end, changes))
    return found


def plain_pieces(read, k):
    """The pieces, their letters dealt out one by one."""
    sizes = [0] * (k + 1)
    for at in range(len(read)):
        sizes[at % (k + 1)] += 1
    begins = [0, *itertools.accumulate(sizes)]
    return [(begin, read[begin:begin + size]) for begin, size in zip(begins, sizes)]


def plain_windows(text, read, k):
    """The windows, their parts searched letter by letter and joined pair by pair."""
    if any(part == "" for _, part in plain_pieces(read, k)):
        return [(0, len(text))]
    found = set()
    for offset, part in plain_pieces(read, k):
        for place in range(len(text)):
            if "N" not in part and text.startswith(part, place):
                begin = place - offset
                found.add((max(0, begin - k), min(len(text), begin + len(read) + k)))
    pair = touching(found)
    while pair is not None:
        (a, b), (c, d) = pair
        found = (found - {(a, b), (c, d)}) | {(a, max(b, d))}
        pair = touching(found)
    return sorted(found)


def touching(found):
    for (a, b), (c, d) in itertools.combinations(sorted(found), 2):
        if a <= c <= b:
            return (a, b), (c, d)
    return None


def plain_homes(found):
    """The homes, each hit compared with each other one."""
    least = min((hit[3] for hit in found), default=None)
    return [hit for hit in found if hit[3] == least and not any(
        other[:2] == hit[:2] and other[2] == hit[2] - 1 and other[3] <= hit[3] for other in found)]


def plain_cost(path, costs):
    replace, start, each = costs
    cost = 0
    for step, run in itertools.groupby(path):
        many = len(list(run))
        cost += {"=": 0, "X": many * replace, "I": start + many * each, "D": start + many * each}[step]
    return cost


def every_path(read, text):
    """All paths from the whole text to the whole read."""
    if not read and not text:
        yield ""
    if read:
        yield from ("I" + path for path in every_path(read[1:], text))
    if text:
        yield from ("D" + path for path in every_path(read, text[1:]))
    if read and text:
        step = "=" if plain_agree(read[0], text[0]) else "X"
        yield from (step + path for path in every_path(read[1:], text[1:]))


def least_of_every_path(read, text, end, costs):
    return min(plain_cost(path, costs) for begin in range(end + 1) for path in every_path(read, text[begin:end]))


def least_cost(read, text, end, costs):
    """The least cost, by a table of what is left to pay ahead of each cell, for each step that comes behind it."""
    replace, start, each = costs

    @functools.cache
    def ahead(i, j, behind):
        if i == 0:
            return 0
        ways = [ahead(i - 1, j, "I") + each + (0 if behind == "I" else start)]
        if j > 0:
            ways.append(ahead(i, j - 1, "D") + each + (0 if behind == "D" else start))
            pair = 0 if plain_agree(read[i - 1], text[j - 1]) else replace
            ways.append(ahead(i - 1, j - 1, "") + pair)
        return min(ways)

    # The cells are worked out from the first one on, so that no call goes deep.
    for i, j, behind in itertools.product(range(len(read) + 1), range(end + 1), ("I", "D", "")):
        ahead(i, j, behind)
    return ahead(len(read), end, "")
