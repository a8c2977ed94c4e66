"""The hits of a read, and its homes among them (points 20, 24 and 32)."""

from homereads.distance import ends
from homereads.letters import turned
from homereads.seeds import search_windows


def hits(index, read, k):
    """Return the list of the hits of a read, tuples (reference, strand, end, changes), ascending."""
    return sorted(_hits_on_strand(index, 0, read, k) + _hits_on_strand(index, 1, turned(read), k))


def homes(found):
    """Return the list of the homes among the hits of a read."""
    is_hit = {hit: True for hit in found}
    least = min([changes for _, _, _, changes in found], default=0)
    return [
        (reference, strand, end, changes) for reference, strand, end, changes in found
        if changes == least and (reference, strand, end - 1, changes) not in is_hit
    ]


def _hits_on_strand(index, strand, text, k):
    """Return the list of the hits of a read, or of the turned read, which is this text."""
    found = []
    for reference, parts in search_windows(index, text, k).items():
        letters = index.references[reference][1]
        for begin, behind in parts:
            for end, changes in ends(text, letters[begin:behind], k):
                found.append((reference, strand, begin + end, changes))
    return found
