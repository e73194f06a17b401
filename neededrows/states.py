"""What the search for the fewest comparers and the judge of its papers both ask of states."""

from itertools import combinations

from neededrows.rows import noughts


def standard_comparers(wires):
    """The list of all standard comparers, ascending."""
    return list(combinations(range(wires), 2))


def is_unfinished(state):
    """Whether two unlike rows of a state have equal numbers of noughts."""
    counts = [noughts(row) for row in state]
    return len(set(counts)) < len(counts)


def renamed_row(row, names):
    """The row with, on each wire names[w], the number on the wire w."""
    numbers = list(row)
    for wire, name in enumerate(names):
        numbers[name] = row[wire]
    return tuple(numbers)
