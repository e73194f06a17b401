"""Networks that fail with one plain row alone, and rows of different numbers that fail."""

from neededrows.network import Network, joined, mirrored, widened
from neededrows.rows import is_sorted, noughts


def _turned(row):
    return tuple([1 - number for number in row[::-1]])


def _last_comparers(before, number):
    last = len(before)
    if number == 1:
        return [(i, last) for i in range(last)]
    # On this wire the witness of the numbers before leaves a 1. With the 0 behind them
    # no comparer may mend that; with a 1 behind them the additional one mends it.
    wrong = noughts(before) - 1
    return [(i, last) for i in range(last) if i != wrong] + [(wrong, wrong + 1)]


def witness(row):
    """A standard network that sorts every plain row but this one, which is not sorted."""
    wires = len(row)
    if wires == 2:
        return Network(2, [])
    before = row[:-1]
    if is_sorted(before):
        # The turned row is not sorted even without its last number, so this ends.
        return mirrored(witness(_turned(row)))
    inner = widened(witness(before), wires, 0)
    return joined(inner, Network(wires, _last_comparers(before, row[-1])))


def exact(network, row):
    """A row of different numbers that fails in a standard network as the plain row does, or None."""
    if is_sorted(network.run(row)):
        return None
    low = [wire for wire, number in enumerate(row) if number == 0]
    high = [wire for wire, number in enumerate(row) if number == 1]
    # The smaller numbers go the way of the noughts, so the results are unsorted alike.
    ascending = low + high
    return tuple([ascending.index(wire) for wire in range(network.wires)])
