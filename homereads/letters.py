"""The letters of texts (points 2 to 4), and their symbols (point 11)."""

LETTERS = "ACGTN"

_TURNED = {"A": "T", "C": "G", "G": "C", "T": "A", "N": "N"}
_SYMBOLS = {"A": 2, "C": 3, "G": 4, "T": 5, "N": 6}


def agree(first, second):
    """Return whether two letters agree: an unknown letter agrees with none, not even with itself."""
    return first == second and first != "N"


def turned(text):
    """Return the turned text."""
    return "".join([_TURNED[letter] for letter in reversed(text)])


def symbol(letter):
    """Return the symbol that stands for a letter in the joined sequence."""
    return _SYMBOLS[letter]
