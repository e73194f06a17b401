"""What each wire of a result depends on, and which comparers never act."""

from neededrows.network import Network
from neededrows.rows import plain_rows


def _ones(row):
    return tuple([wire for wire, number in enumerate(row) if number == 1])


def _with_one_less(row):
    return [row[:wire] + (0,) + row[wire + 1:] for wire in _ones(row)]


def sets(network, wire):
    """The least sets of wires whose ones bring a 1 onto this wire of the result, ascending."""
    reaching = {row: True for row in plain_rows(network.wires) if network.run(row)[wire] == 1}
    # More ones never take a 1 away from a result, so rows with just one less tell all.
    least = [row for row in reaching if not any([less in reaching for less in _with_one_less(row)])]
    return sorted([_ones(row) for row in least])


def by_sets(found, row):
    """The number that a wire of the result has for a row, by the sets of this wire."""
    return max([min([row[wire] for wire in wires]) for wires in found])


def idle(network):
    """The indexes of the comparers, ascending, that act on no row."""
    found = []
    rows = plain_rows(network.wires)
    for at, pair in enumerate(network.comparers):
        comparer = Network(network.wires, [pair])
        results = [comparer.run(row) for row in rows]
        if results == rows:
            found.append(at)
        rows = results
    return found


def trimmed(network):
    """The network without its idle comparers."""
    left_out = idle(network)
    kept = [pair for at, pair in enumerate(network.comparers) if at not in left_out]
    return Network(network.wires, kept)
