"""The best pairs of hits of two reads (points 33 and 34)."""

from homereads.hits import hits


def best_pairs(index, first, second, k, low, high):
    """Return the list of the best pairs of two reads, tuples of a hit of the first and a hit of the second one."""
    first_groups = _groups(hits(index, first, k))
    second_groups = _groups(hits(index, second, k))
    for changes in range(2 * k + 1):
        found = []
        for (reference, strand, own), group in first_groups.items():
            others = second_groups.get((reference, 1 - strand, changes - own), [])
            if strand == 0:
                # The span is the other end minus the own one, plus the length of the first read.
                found.extend(_pairs_within(group, others, low - len(first), high - len(first)))
            else:
                found.extend(_pairs_within(group, others, len(second) - high, len(second) - low))
        if found:
            return sorted(found)
    return []


def _groups(found):
    """Return a dict from the references, strands and changes of hits to the lists of these hits."""
    groups = {}
    for reference, strand, end, changes in found:
        groups.setdefault((reference, strand, changes), []).append((reference, strand, end, changes))
    return groups


def _pairs_within(group, others, least, most):
    """Return the pairs of a hit and another one whose end minus that of the first is from least to most."""
    found = []
    # Both lists ascend by their ends, so what lies too far ahead for one hit does so for the next one, too.
    begin = 0
    for hit in group:
        while begin < len(others) and others[begin][2] - hit[2] < least:
            begin += 1
        at = begin
        while at < len(others) and others[at][2] - hit[2] <= most:
            found.append((hit, others[at]))
            at += 1
    return found
