"""Networks and rows that several tests go through."""

from itertools import combinations, product

from neededrows.network import Network

SORTING_FOUR = [(0, 1), (2, 3), (0, 2), (1, 3), (1, 2)]
HUGE = 10 ** 5000


def all_pairs(wires):
    """All comparers of two different wires, standard or not."""
    return [(i, j) for i in range(wires) for j in range(wires) if i != j]


def all_networks(wires, most):
    """All networks with these wires and at most so many comparers."""
    return [
        Network(wires, list(chosen))
        for many in range(most + 1)
        for chosen in product(all_pairs(wires), repeat=many)
    ]


def some_networks():
    """Small networks of all kinds and a few larger ones."""
    return (
        [Network(1, [])]
        + all_networks(2, 3)
        + all_networks(3, 2)
        + [
            Network(4, SORTING_FOUR),
            Network(4, [(3, 0), (1, 2), (2, 1), (0, 3), (0, 3)]),
            Network(5, [(4, 2), (0, 1), (1, 3), (2, 0), (3, 4), (0, 1)]),
            Network(5, [(0, 1), (1, 2), (3, 4), (2, 3), (0, 1)]),
        ]
    )


def rows_of(network):
    """Rows for a network: all of the numbers 0 to 2, and some of other numbers."""
    many = network.wires
    others = [
        tuple(range(many, 0, -1)),
        tuple(-7 * k for k in range(many)),
        tuple(HUGE * (-1) ** k for k in range(many)),
        tuple((k * 3) % many - HUGE for k in range(many)),
    ]
    return list(product((0, 1, 2), repeat=many)) + others


def scattered(wires, many, start=1):
    """Many comparers without a plain order, standard or not, the same at each call."""
    number, found = start, []
    while len(found) < many:
        number = (number * 1103515245 + 12345) % 2 ** 31
        i, j = (number >> 8) % wires, (number >> 16) % wires
        if i != j:
            found.append((i, j))
    return found


def made_standard(pairs):
    """The same pairs of wires, each with the lower one first."""
    return [(min(pair), max(pair)) for pair in pairs]


def sorting(wires):
    """The comparers of a network that sorts, none of which can be left out."""
    return [(at, at + 1) for wire in range(1, wires) for at in range(wire - 1, -1, -1)]


def without(pairs, at):
    """The comparers but for the one with this index."""
    return pairs[:at] + pairs[at + 1:]


def parts_of(wires):
    """All tuples of numbers above 0 with this sum."""
    if wires == 0:
        return [()]
    return [(size,) + rest for size in range(1, wires + 1) for rest in parts_of(wires - size)]


def all_tasks(wires):
    """All tasks for these wires, with all their numbers."""
    wanted = [chosen for many in range(1, wires + 1) for chosen in combinations(range(wires), many)]
    return (
        [("sort",), ("bitonic",)]
        + [("merge", p) for p in range(1, wires)]
        + [("parts", sizes) for sizes in parts_of(wires)]
        + [("near", d) for d in range(wires)]
        + [("select", k) for k in range(1, wires)]
        + [("ranks", chosen) for chosen in wanted]
    )


def unsorted_plain_rows(wires):
    """The plain rows that are not sorted, ascending."""
    return [row for row in product((0, 1), repeat=wires) if list(row) != sorted(row)]
