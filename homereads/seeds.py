"""Pieces of reads, and the windows of references in which reads may lie (points 21 to 23)."""


def pieces(read, k):
    """Return the list of the pieces of a read, as pairs (offset, part)."""
    size = len(read) // (k + 1)
    longer = len(read) % (k + 1)
    found = []
    offset = 0
    for number in range(k + 1):
        end = offset + size + (1 if number < longer else 0)
        found.append((offset, read[offset:end]))
        offset = end
    return found


def windows(index, reference, read, k):
    """Return the list of the windows of a read in the reference with this number."""
    length = _length_of(index, reference)
    if _has_empty_part(read, k):
        return [(0, length)]
    begins = _begins_by_reference(index, read, k)
    return _windows_around(begins.get(reference, []), length, len(read), k)


def search_windows(index, read, k):
    """Return a dict from the numbers of references to lists of windows that hold all hits of a read (point 24)."""
    if _has_empty_part(read, k) or _is_common(index, read, k):
        return {reference: [(0, _length_of(index, reference))] for reference in range(len(index.references))}
    return {
        reference: _windows_around(begins, _length_of(index, reference), len(read), k)
        for reference, begins in _begins_by_reference(index, read, k).items()
    }


def _length_of(index, reference):
    """Return the number of letters of a reference."""
    return len(index.references[reference][1])


def _has_empty_part(read, k):
    """Return whether a piece of the read is empty."""
    return len(read) <= k


def _is_common(index, read, k):
    """Return whether the places of the pieces are so many that finding them takes longer than reading all texts."""
    many = 0
    for part in _known_parts(read, k):
        low, high = index.interval(part)
        many += high - low
    # A place is found by up to `sample` steps, and a step takes about as long as reading a letter.
    return many * index.sample > index.length()


def _known_parts(read, k):
    """Return a dict from the different parts without `N` to the lists of their offsets."""
    offsets = {}
    for offset, part in pieces(read, k):
        if "N" not in part:
            offsets.setdefault(part, []).append(offset)
    return offsets


def _begins_by_reference(index, read, k):
    """Return a dict from the numbers of references to the positions where the read begins if a part lies in place."""
    begins = {}
    for part, offsets in _known_parts(read, k).items():
        for reference, position in index.places(part):
            begins.setdefault(reference, []).extend([position - offset for offset in offsets])
    return begins


def _windows_around(begins, length, many, k):
    """Return the windows of a read of so many letters that may begin about these positions of a text."""
    found = []
    for begin in sorted(begins):
        low = max(0, begin - k)
        high = min(length, begin + many + k)
        if found and low <= found[-1][1]:
            found[-1] = (found[-1][0], high)
        else:
            found.append((low, high))
    return found
