"""Networks that compare neighbours only."""

from neededrows.network import Network
from neededrows.rows import is_sorted


def _falling(wires):
    return list(range(wires - 1, -1, -1))


def sorts_adjacent(network):
    """Whether an adjacent network sorts every row; the falling row alone tells it."""
    return is_sorted(network.run(_falling(network.wires)))


def _may_be_exchanged(before, after, a):
    return before > after and (before, after) != (a, a - 1)


def missing(wires, a):
    """An adjacent network that sorts, but for the numbers a - 1 and a, whatever it does not sort."""
    row = _falling(wires)
    comparers = []
    # Each time through, what stands before the place has no neighbours left to exchange.
    place = 0
    while place < wires - 1:
        if _may_be_exchanged(row[place], row[place + 1], a):
            row[place], row[place + 1] = row[place + 1], row[place]
            comparers.append((place, place + 1))
            place = max(0, place - 1)
        else:
            place += 1
    return Network(wires, comparers)
