"""Packed texts (points 9 and 10)."""

from homereads.bytelists import number_at, number_bytes
from homereads.errors import InvalidPack

_CODES = {"A": 0, "C": 1, "G": 2, "T": 3, "N": 0}
_CODED = "ACGT"
_NUMBER_SIZE = 4
_HEAD_SIZE = 8
_RUN_SIZE = 8


def pack(text):
    """Return the packed form of a text."""
    runs = _runs_of(text)
    data = number_bytes(len(text), _NUMBER_SIZE) + number_bytes(len(runs), _NUMBER_SIZE)
    for first, size in runs:
        data.extend(number_bytes(first, _NUMBER_SIZE) + number_bytes(size, _NUMBER_SIZE))
    data.extend(_letter_bytes(text))
    return data


def unpack(data):
    """Return the text of which a byte list is the packed form; raise InvalidPack if there is none."""
    length = number_at(data, 0, _NUMBER_SIZE)
    many_runs = number_at(data, _NUMBER_SIZE, _NUMBER_SIZE)
    letters_at = _HEAD_SIZE + many_runs * _RUN_SIZE
    # Behind this check no number is larger than the byte list allows. One that ends in its head fails it, too.
    if len(data) != letters_at + (length + 3) // 4:
        raise InvalidPack("the byte list is not as long as its numbers tell")
    letters = _coded_letters(data[letters_at:])
    _check_zeros(letters, length, len(letters))
    for first, size in _told_runs(data, many_runs, length):
        _check_zeros(letters, first, first + size)
        letters[first:first + size] = ["N"] * size
    return "".join(letters[:length])


def _runs_of(text):
    """Return the list of the runs of `N` as tuples of their first position and their length."""
    runs = []
    first = text.find("N")
    while first >= 0:
        behind = first
        while behind < len(text) and text[behind] == "N":
            behind += 1
        runs.append((first, behind - first))
        first = text.find("N", behind)
    return runs


def _letter_bytes(text):
    """Return the list of the bytes of the letters, four in a byte."""
    codes = [_CODES[letter] for letter in text]
    while len(codes) % 4 > 0:
        codes.append(0)
    return [
        64 * codes[at] + 16 * codes[at + 1] + 4 * codes[at + 2] + codes[at + 3]
        for at in range(0, len(codes), 4)
    ]


def _coded_letters(data):
    """Return the list of the letters that bytes tell, four for each byte."""
    letters = []
    for byte in data:
        letters.extend([_CODED[byte // 64], _CODED[byte // 16 % 4], _CODED[byte // 4 % 4], _CODED[byte % 4]])
    return letters


def _told_runs(data, many, length):
    """Return the list of the runs that a byte list tells, which must be those of a text of this length."""
    runs = []
    # A run that began where the one ahead of it ends would be a part of that one.
    least = 0
    for at in range(_HEAD_SIZE, _HEAD_SIZE + many * _RUN_SIZE, _RUN_SIZE):
        first = number_at(data, at, _NUMBER_SIZE)
        size = number_at(data, at + _NUMBER_SIZE, _NUMBER_SIZE)
        if first < least or size == 0 or first + size > length:
            raise InvalidPack("a run is empty, out of its order or beyond the text")
        runs.append((first, size))
        least = first + size + 1
    return runs


def _check_zeros(letters, begin, end):
    """Raise InvalidPack if one of the letters from `begin` to `end` is not written as 0, as `A` is."""
    for at in range(begin, end):
        if letters[at] != "A":
            raise InvalidPack("there is a letter where none is told")
