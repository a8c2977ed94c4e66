"""The conditions of point 28, one by one."""

from plain_changes import plain_agree

P, Q, R = 0, 1, 2


def bounds(table, i, j):
    """Whether a cell bounds something."""
    return {P: i == 0 or j > 0, Q: i > 0, R: j > 0}[table]


def cells(read, end):
    return [(table, i, j) for i in range(len(read) + 1) for j in range(end + 1) for table in (P, Q, R)]


def conditions(read, text, end, costs):
    """All conditions as tuples (kind, left, right, more): the left cell is at most the right one plus that many.

    The conditions of P in the row 0 have None at the right.
    """
    replace, start, each = costs
    for table, i, j in cells(read, end):
        if table == P and i == 0:
            yield "P0", (P, i, j), None, 0
        if table == P and i > 0 and j > 0:
            more = 0 if plain_agree(read[i - 1], text[j - 1]) else replace
            ahead = [(other, i - 1, j - 1, more) for other in (P, Q, R)]
        elif table == Q and i > 0:
            ahead = [(P, i - 1, j, start + each), (R, i - 1, j, start + each), (Q, i - 1, j, each)]
        elif table == R and j > 0:
            ahead = [(P, i, j - 1, start + each), (Q, i, j - 1, start + each), (R, i, j - 1, each)]
        else:
            ahead = []
        for other, row, column, more in ahead:
            if bounds(other, row, column):
                yield "PQR"[table] + "PQR"[other], (table, i, j), (other, row, column), more


def number(paper, cell):
    table, i, j = cell
    return paper[table][i][j]


def broken(paper, read, text, end, costs):
    """The kinds and the cells of the conditions that do not hold, and by how much."""
    found = []
    for kind, left, right, more in conditions(read, text, end, costs):
        most = more + (0 if right is None else number(paper, right))
        if number(paper, left) > most:
            found.append((kind, left, number(paper, left) - most))
    return found


def plain_shown(paper, read, text, end, costs):
    """What a paper of the right sizes shows, or None."""
    if broken(paper, read, text, end, costs):
        return None
    last = len(read)
    return min(paper[table][last][end] for table in (P, Q, R) if bounds(table, last, end))


def lowered(paper, cell, value, read, text, end, costs):
    """A paper in which the cell has this value, and each cell that it then bounds more is as large as it may be."""
    tables = tuple([list(row) for row in table] for table in paper)
    tables[cell[0]][cell[1]][cell[2]] = value
    # The conditions of a cell are in one row behind those of all cells that stand in them at the right.
    for _, left, right, more in conditions(read, text, end, costs):
        most = more + (0 if right is None else number(tables, right))
        table, i, j = left
        tables[table][i][j] = min(tables[table][i][j], most)
    return tables


def copied(paper):
    return tuple([list(row) for row in table] for table in paper)
