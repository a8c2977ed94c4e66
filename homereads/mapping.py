"""The records of the hits of reads (points 30 and 31)."""

from homereads.hits import hits
from homereads.letters import turned
from homereads.paths import best_alignments, cut


def map_reads(index, reads, k, costs, *, batch=100):
    """Return the list of the records of all hits of the reads, which are tuples (name, text, marks)."""
    records = []
    for begin in range(0, len(reads), batch):
        records.extend(_map_batch(index, reads[begin:begin + batch], k, costs))
    return records


def write_record(record):
    """Return the line of a record: its parts, separated by tabs."""
    return "\t".join([str(part) for part in record])


def read_record(line):
    """Return the record that is written as this line."""
    name, reference, strand, begin, end, changes, cost, cut_path = line.split("\t")
    return name, int(reference), int(strand), int(begin), int(end), int(changes), int(cost), cut_path


def _map_batch(index, reads, k, costs):
    """Return the list of the records of the reads of a batch."""
    # Equal texts have the same hits: in a batch, they are worked out once.
    aligned = {}
    records = []
    for name, text, _ in reads:
        if text not in aligned:
            aligned[text] = _aligned_hits(index, text, k, costs)
        records.extend([(name, *parts) for parts in aligned[text]])
    return records


def _aligned_hits(index, text, k, costs):
    """Return the list of the parts of the records of a read behind its name, for all its hits."""
    letters = (text, turned(text))
    found = []
    # Neighbouring ends have most of their tables in common. With more ends than letters, the tables would get large.
    for run in _neighbouring_hits(hits(index, text, k), len(text)):
        reference, strand, low, _ = run[0]
        high = run[-1][2]
        alignments = best_alignments(letters[strand], index.references[reference][1], low, high, costs)
        for (_, _, end, changes), (begin, path, cost) in zip(run, alignments):
            found.append((reference, strand, begin, end, changes, cost, cut(path)))
    return found


def _neighbouring_hits(found, most):
    """Return the hits, in their order, in lists of at most so many whose ends follow one another."""
    runs = []
    for hit in found:
        reference, strand, end, _ = hit
        if runs and len(runs[-1]) < most and runs[-1][-1][:3] == (reference, strand, end - 1):
            runs[-1].append(hit)
        else:
            runs.append([hit])
    return runs
