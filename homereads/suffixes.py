"""The rows of a list of numbers (point 12)."""


def suffix_rows(numbers):
    """Return the starts of the rows of a list of numbers, in order."""
    # The ranks compare what begins at each position, as far as the first `width` numbers of it.
    ranks = _ranks(numbers)
    width = 1
    # No two suffixes are equal, so they all differ as soon as the width is large enough.
    while len(set(ranks)) < len(numbers):
        ranks = _ranks(_joined_keys(ranks, width))
        width *= 2
    rows = [0] * len(numbers)
    for start, rank in enumerate(ranks):
        rows[rank - 1] = start
    return rows


def _ranks(keys):
    """Return, for each key, its number from 1 on among the different keys in ascending order."""
    rank_of = {key: rank for rank, key in enumerate(sorted(set(keys)), start=1)}
    return [rank_of[key] for key in keys]


def _joined_keys(ranks, width):
    """Return, for each position, a key that is ordered by the rank there, then by the rank `width` behind it."""
    # Behind the end stands 0, less than each rank: a suffix that ends there comes first.
    behind = ranks[width:] + [0] * width
    base = len(ranks) + 1
    return [base * first + second for first, second in zip(ranks, behind)]
