"""Networks with the same results, and standard networks that are like others."""

from neededrows.network import Network
from neededrows.rows import plain_rows


def parted(network, other):
    """The first plain row with unlike results, or None if all rows have the same ones."""
    for row in plain_rows(network.wires):
        if network.run(row) != other.run(row):
            return row
    return None


def straight(network):
    """A standard network, and for each wire the one with its number in the standard one."""
    names = list(range(network.wires))
    comparers = []
    for i, j in network.comparers:
        # A standard comparer puts the smaller number onto the lower wire: the names follow it.
        if names[j] < names[i]:
            names[i], names[j] = names[j], names[i]
        comparers.append((names[i], names[j]))
    return (Network(network.wires, comparers), tuple(names))
