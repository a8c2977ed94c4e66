"""The records of the hits of reads (points 30 and 31)."""

from homereads.hits import hits
from homereads.letters import turned
from homereads.paths import best_alignment, cut


def map_reads(index, reads, k, costs, *, batch=100):
    """Return the list of the records of all hits of the reads, which are tuples (name, text, marks)."""
    records = []
    for begin in range(0, len(reads), batch):
        records.extend(_map_batch(index, reads[begin:begin + batch], k, costs))
    return records


def write_record(record):
    """Return the line of a record: its parts, separated by tabs."""
    return "\t".join([str(part) for part in record])


def read_record(line):
    """Return the record that is written as this line."""
    name, reference, strand, begin, end, changes, cost, cut_path = line.split("\t")
    return name, int(reference), int(strand), int(begin), int(end), int(changes), int(cost), cut_path


def _map_batch(index, reads, k, costs):
    """Return the list of the records of the reads of a batch."""
    # Equal texts have the same hits: in a batch, they are worked out once.
    aligned = {}
    records = []
    for name, text, _ in reads:
        if text not in aligned:
            aligned[text] = _aligned_hits(index, text, k, costs)
        records.extend([(name, *parts) for parts in aligned[text]])
    return records


def _aligned_hits(index, text, k, costs):
    """Return the list of the parts of the records of a read behind its name, for all its hits."""
    letters = (text, turned(text))
    found = []
    for reference, strand, end, changes in hits(index, text, k):
        begin, path, cost = best_alignment(letters[strand], index.references[reference][1], end, costs)
        found.append((reference, strand, begin, end, changes, cost, cut(path)))
    return found
