"""Networks and rows that several tests go through."""

from itertools import product

from neededrows.network import Network

SORTING_FOUR = [(0, 1), (2, 3), (0, 2), (1, 3), (1, 2)]
HUGE = 10 ** 5000


def all_pairs(wires):
    """All comparers of two different wires, standard or not."""
    return [(i, j) for i in range(wires) for j in range(wires) if i != j]


def all_networks(wires, most):
    """All networks with these wires and at most so many comparers."""
    return [
        Network(wires, list(chosen))
        for many in range(most + 1)
        for chosen in product(all_pairs(wires), repeat=many)
    ]


def some_networks():
    """Small networks of all kinds and a few larger ones."""
    return (
        [Network(1, [])]
        + all_networks(2, 3)
        + all_networks(3, 2)
        + [
            Network(4, SORTING_FOUR),
            Network(4, [(3, 0), (1, 2), (2, 1), (0, 3), (0, 3)]),
            Network(5, [(4, 2), (0, 1), (1, 3), (2, 0), (3, 4), (0, 1)]),
            Network(5, [(0, 1), (1, 2), (3, 4), (2, 3), (0, 1)]),
        ]
    )


def rows_of(network):
    """Rows for a network: all of the numbers 0 to 2, and some of other numbers."""
    many = network.wires
    others = [
        tuple(range(many, 0, -1)),
        tuple(-7 * k for k in range(many)),
        tuple(HUGE * (-1) ** k for k in range(many)),
        tuple((k * 3) % many - HUGE for k in range(many)),
    ]
    return list(product((0, 1, 2), repeat=many)) + others
