"""Indexes as byte lists (points 16 and 17)."""

from homereads.bytelists import number_at, number_bytes
from homereads.errors import Damaged, NotAnIndex, Truncated
from homereads.index import Index
from homereads.letters import text_of
from homereads.records import NAME_CHARACTERS

_FIRST_BYTES = (72, 82, 1)
_HEAD_SIZE = 9
_LENGTH_SIZE = 4
_START_SIZE = 4
_SUM_SIZE = 4
_SUM_MODULO = 65521


def sum_of(data):
    """Return the sum of a byte list."""
    a = 1
    b = 0
    for byte in data:
        a = (a + byte) % _SUM_MODULO
        b = (b + a) % _SUM_MODULO
    return 65536 * b + a


def write_index(index):
    """Return the written form of an index, a byte list."""
    data = list(_FIRST_BYTES)
    for number in (index.block, index.sample, len(index.references)):
        data.extend(number_bytes(number, 2))
    for name, text in index.references:
        data.append(len(name))
        data.extend([ord(character) for character in name])
        data.extend(number_bytes(len(text), _LENGTH_SIZE))
    data.extend(_column_bytes(index.last()))
    for start in index.kept_starts():
        data.extend(number_bytes(start, _START_SIZE))
    data.extend(number_bytes(sum_of(data), _SUM_SIZE))
    return data


def read_index(data):
    """Return the index of which a byte list is the written form; raise an error if it is that of none."""
    _check_first_bytes(data)
    if len(data) < _HEAD_SIZE:
        raise Truncated("the byte list ends in its head")
    block = number_at(data, 3, 2)
    sample = number_at(data, 5, 2)
    many = number_at(data, 7, 2)
    if block == 0 or sample == 0 or many == 0:
        raise Damaged("the block, the sample or the number of references is 0")
    heads, column_at = _told_heads(data, many)
    lengths = [length for _, length in heads]
    size = sum(lengths) + many
    starts_at = column_at + (size + 1) // 2
    many_starts = (size + sample - 1) // sample
    _check_end(data, starts_at + _START_SIZE * many_starts)
    last = _told_column(data[column_at:starts_at], size)
    # The texts tell the kept starts, too: an index that is read comes to be as any other one does.
    references = list(zip(_told_names(heads), _told_texts(last, lengths)))
    return Index(references, block=block, sample=sample)


def _column_bytes(last):
    """Return the list of the bytes of the last column, two symbols in a byte."""
    symbols = last + [0] * (len(last) % 2)
    return [16 * symbols[at] + symbols[at + 1] for at in range(0, len(symbols), 2)]


def _check_first_bytes(data):
    """Raise NotAnIndex if one of the first bytes is there and wrong."""
    for byte, expected in zip(data, _FIRST_BYTES):
        if byte != expected:
            raise NotAnIndex("the byte list does not begin as an index does")


def _told_heads(data, many):
    """Return the list of the names' codes and the texts' lengths, as tuples, and the position behind them."""
    heads = []
    at = _HEAD_SIZE
    for _ in range(many):
        # If the byte list ends in a reference, this tells it for the next one; for the last one, _check_end does.
        if at >= len(data):
            raise Truncated("the byte list ends among the references")
        length_at = at + 1 + data[at]
        heads.append((data[at + 1:length_at], number_at(data, length_at, _LENGTH_SIZE)))
        at = length_at + _LENGTH_SIZE
    return heads, at


def _check_end(data, sum_at):
    """Raise an error if the byte list does not end with its sum, which begins at `sum_at`."""
    end = sum_at + _SUM_SIZE
    if len(data) < end:
        raise Truncated("the byte list ends ahead of the end of its sum")
    if len(data) > end:
        raise Damaged("bytes follow the sum")
    if number_at(data, sum_at, _SUM_SIZE) != sum_of(data[:sum_at]):
        raise Damaged("the sum is wrong")


def _told_column(data, size):
    """Return the last column, of so many symbols, that bytes tell."""
    symbols = []
    for byte in data:
        symbols.extend([byte // 16, byte % 16])
    return symbols[:size]


def _told_names(heads):
    """Return the list of the names that the codes in the heads tell."""
    character_of = {ord(character): character for character in NAME_CHARACTERS}
    names = []
    for codes, _ in heads:
        names.append("".join([character_of[code] for code in codes]))
    return names


def _told_texts(last, lengths):
    """Return the list of the texts of these lengths whose joined sequence has this last column."""
    sequence = _sequence_of(last)
    texts = []
    begin = 0
    for length in lengths:
        texts.append(text_of(sequence[begin:begin + length]))
        begin += length + 1
    return texts


def _sequence_of(last):
    """Return the joined sequence that has this last column."""
    # The steps lead to the rows in the order of the symbols of the last column, and among equal symbols in the
    # order of the rows: so `later` has, for each row, the row from which the step leads to it.
    later = sorted(range(len(last)), key=lambda at: last[at])
    sequence = []
    row = 0
    for _ in later:
        row = later[row]
        sequence.append(last[later[row]])
    return sequence
