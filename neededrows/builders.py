"""Networks that are made by rule: for sorting, merging and bitonic rows."""

from neededrows.network import Network


def insertion(wires):
    """Takes one wire after the other in among the sorted ones before it."""
    return Network(wires, [(i, i + 1) for wire in range(1, wires) for i in range(wire - 1, -1, -1)])


def bubbles(wires):
    """Brings the greatest number to the end, then the greatest one of the others, and so on."""
    return Network(wires, [(i, i + 1) for last in range(wires - 1, 0, -1) for i in range(last)])


def bricks(wires, rounds):
    """Compares neighbours, from the wire 0 and from the wire 1 on by turns."""
    return Network(wires, [(i, i + 1) for turn in range(rounds) for i in range(turn % 2, wires - 1, 2)])


def _merged(left, right):
    """The comparers that merge the sorted numbers on these wires, all of left before all of right."""
    if not left or not right:
        return []
    if len(left) == 1 and len(right) == 1:
        return [(left[0], right[0])]
    wires = left + right
    # When both halves are merged, only the wires 1 and 2, 3 and 4, .. may be out of order.
    last = [(wires[k], wires[k + 1]) for k in range(1, len(wires) - 1, 2)]
    return _merged(left[::2], right[::2]) + _merged(left[1::2], right[1::2]) + last


def _sorted_by_merging(wires):
    if len(wires) < 2:
        return []
    half = (len(wires) + 1) // 2
    left, right = wires[:half], wires[half:]
    return _sorted_by_merging(left) + _sorted_by_merging(right) + _merged(left, right)


def merging(p, q):
    """Merges p sorted numbers and the q sorted ones behind them."""
    wires = list(range(p + q))
    return Network(p + q, _merged(wires[:p], wires[p:]))


def batcher(wires):
    """Sorts both halves and merges them."""
    return Network(wires, _sorted_by_merging(list(range(wires))))


def bitonic_merging(wires):
    """Sorts the rows that rise and fall once around, for a number of wires that is a power of 2."""
    comparers = []
    step = wires // 2
    while step > 0:
        comparers.extend([(i, i + step) for i in range(wires - step) if (i // step) % 2 == 0])
        step //= 2
    return Network(wires, comparers)
