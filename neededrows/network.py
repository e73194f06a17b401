"""Networks of comparers, and what can be made of them."""

from neededrows.errors import InvalidNetwork


def _check_comparer(wires, i, j):
    # The numbers stay out of the messages: Python writes no integer of any size.
    if not 0 <= i < wires or not 0 <= j < wires:
        raise InvalidNetwork("a comparer has a number that is no wire")
    if i == j:
        raise InvalidNetwork("a comparer has the same wire twice")


class Network:
    """A number of wires, and comparers through which a row goes in order."""

    def __init__(self, wires, comparers):
        if wires < 1:
            raise InvalidNetwork("a network has at least one wire")
        # The pairs are copied too: nothing that the caller may change is kept.
        pairs = tuple([(i, j) for i, j in comparers])
        for i, j in pairs:
            _check_comparer(wires, i, j)
        self.wires = wires
        self.comparers = pairs

    def __eq__(self, other):
        return isinstance(other, Network) and self.wires == other.wires and self.comparers == other.comparers

    @property
    def is_standard(self):
        """Whether each comparer puts the smaller number onto the lower wire."""
        return all([i < j for i, j in self.comparers])

    def run(self, row):
        """The result of a row, as a tuple."""
        numbers = list(row)
        for i, j in self.comparers:
            if numbers[j] < numbers[i]:
                numbers[i], numbers[j] = numbers[j], numbers[i]
        return tuple(numbers)


def mirrored(network):
    """The network that does with reversed negatives what this one does with a row."""
    last = network.wires - 1
    return Network(network.wires, [(last - j, last - i) for i, j in network.comparers])


def renamed(network, names):
    """The network with the wire names[w] in the place of each wire w."""
    return Network(network.wires, [(names[i], names[j]) for i, j in network.comparers])


def joined(first, second):
    """The comparers of the first network and then those of the second one."""
    return Network(first.wires, first.comparers + second.comparers)


def widened(network, wires, shift):
    """The network on some of more wires, beginning with the wire shift."""
    return Network(wires, [(i + shift, j + shift) for i, j in network.comparers])


def layers(network):
    """The comparers in layers, each as early as those before it on its wires allow."""
    found = []
    # For each wire, the first layer behind all that have a comparer on it.
    behind = [0] * network.wires
    for i, j in network.comparers:
        at = max(behind[i], behind[j])
        if at == len(found):
            found.append([])
        found[at].append((i, j))
        behind[i] = behind[j] = at + 1
    return found


def depth(network):
    """The number of layers."""
    return len(layers(network))
