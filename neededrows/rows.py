"""Rows of numbers, and plain rows of noughts and ones."""


def is_sorted(row):
    """Whether no number is less than the one before it."""
    return all([before <= after for before, after in zip(row, row[1:])])


def plain_rows(wires):
    """The list of all plain rows, ascending."""
    found = [()]
    for _ in range(wires):
        found = [row + (number,) for row in found for number in (0, 1)]
    return found


def noughts(row):
    """The number of noughts of a plain row."""
    return row.count(0)
