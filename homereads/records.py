"""References and reads as lines (points 5 to 8)."""

from homereads.errors import InvalidLine
from homereads.letters import LETTERS

MARKS = "0123456789ABCDEFGHIJKLMNOPQRSTUVWXYZabcde"
NAME_CHARACTERS = "0123456789ABCDEFGHIJKLMNOPQRSTUVWXYZabcdefghijklmnopqrstuvwxyz"

_LONGEST_NAME = 40
_LONGEST_REFERENCE = 100000
_LONGEST_READ = 1000
_LINE_LENGTH = 60


def read_references(lines):
    """Return the list of the references that the lines tell, as tuples (name, text)."""
    references = []
    at = 0
    while at < len(lines):
        name = _name_line(lines, at, ">")
        text, at = _divided_text(lines, at + 1)
        references.append((name, text))
    return references


def read_reads(lines):
    """Return the list of the reads that the lines tell, as tuples (name, text, marks)."""
    reads = []
    for at in range(0, len(lines), 3):
        name = _name_line(lines, at, "@")
        text = _text_line(lines, at + 1, _LONGEST_READ)
        marks = _marks_line(lines, at + 2, len(text))
        reads.append((name, text, marks))
    return reads


def write_references(references):
    """Return the list of the lines of the references."""
    lines = []
    for name, text in references:
        lines.append(">" + name)
        for begin in range(0, len(text), _LINE_LENGTH):
            lines.append(text[begin:begin + _LINE_LENGTH])
    return lines


def write_reads(reads):
    """Return the list of the lines of the reads."""
    lines = []
    for name, text, marks in reads:
        lines.append("@" + name)
        lines.append(text)
        lines.append("".join([MARKS[mark] for mark in marks]))
    return lines


def _divided_text(lines, at):
    """Return the text of a reference that begins with the line `at`, and the index of the line behind it."""
    parts = []
    room = _LONGEST_REFERENCE
    # Each reference has a line of text: only behind that one can a line begin a new reference.
    while not parts or (at < len(lines) and not lines[at].startswith(">")):
        part = _text_line(lines, at, room)
        parts.append(part)
        room -= len(part)
        at += 1
    return "".join(parts), at


def _name_line(lines, at, sign):
    """Return the name in the line `at`, which must begin with the sign."""
    line = _line_at(lines, at)
    if not line.startswith(sign):
        raise InvalidLine(at, 0)
    # The sign stands ahead of the name, so the column of its 41st character is 41.
    column = min(_first_other(line, 1, NAME_CHARACTERS), 1 + _LONGEST_NAME)
    if column < len(line) or len(line) == 1:
        raise InvalidLine(at, column)
    return line[1:]


def _text_line(lines, at, room):
    """Return the line `at`, which must be one of a text that has room for so many letters."""
    line = _line_at(lines, at)
    column = min(_first_other(line, 0, LETTERS), room)
    if column < len(line) or line == "":
        raise InvalidLine(at, column)
    return line


def _marks_line(lines, at, many):
    """Return the list of the marks in the line `at`, which must be so many."""
    line = _line_at(lines, at)
    column = min(_first_other(line, 0, MARKS), many)
    if column < len(line) or len(line) < many:
        raise InvalidLine(at, column)
    return [MARKS.index(character) for character in line]


def _line_at(lines, at):
    """Return the line `at`, or raise InvalidLine if the lines end ahead of it."""
    if at >= len(lines):
        raise InvalidLine(len(lines), 0)
    return lines[at]


def _first_other(line, begin, allowed):
    """Return the column of the first character from `begin` on that is not allowed, or the length of the line."""
    for column in range(begin, len(line)):
        if line[column] not in allowed:
            return column
    return len(line)
