"""The letters of texts (points 2 to 4), and their symbols (point 11)."""

LETTERS = "ACGTN"

_TURNED = {"A": "T", "C": "G", "G": "C", "T": "A", "N": "N"}
_SYMBOLS = {"A": 2, "C": 3, "G": 4, "T": 5, "N": 6}
_LETTER_OF = {2: "A", 3: "C", 4: "G", 5: "T", 6: "N"}


def agree(first, second):
    """Return whether two letters agree: an unknown letter agrees with none, not even with itself."""
    return first == second and first != "N"


def turned(text):
    """Return the turned text."""
    return "".join([_TURNED[letter] for letter in reversed(text)])


def symbol(letter):
    """Return the symbol that stands for a letter in the joined sequence."""
    return _SYMBOLS[letter]


def symbols_of(text):
    """Return the list of the symbols of the letters of a text."""
    return [symbol(letter) for letter in text]


def text_of(symbols):
    """Return the text whose letters have these symbols."""
    return "".join([_LETTER_OF[number] for number in symbols])
