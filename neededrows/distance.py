"""How far results are from sorted ones, and networks that do as much with fewer comparers."""

from neededrows.network import Network
from neededrows.rows import noughts, plain_rows
from neededrows.states import standard_comparers


def _results(network):
    return [network.run(row) for row in plain_rows(network.wires)]


def _last_nought(row):
    return len(row) - 1 - row[::-1].index(0)


def late(network):
    """The greatest number by which a number stands behind its place in the sorted row."""
    return max([_last_nought(row) - (noughts(row) - 1) for row in _results(network) if 0 in row])


def early(network):
    """The greatest number by which a number stands ahead of its place in the sorted row."""
    return max([noughts(row) - row.index(1) for row in _results(network) if 1 in row])


def pruned(network, wanted):
    """The network without the comparers on which no wanted wire of the result depends."""
    matters = [wire in wanted for wire in range(network.wires)]
    kept = []
    for i, j in network.comparers[::-1]:
        if matters[i] or matters[j]:
            matters[i] = matters[j] = True
            kept.append((i, j))
    return Network(network.wires, kept[::-1])


def _one_longer(paths, steps):
    """The results with one more step, and for each of them the first of the longer paths."""
    longer = {}
    # The paths stand in ascending order, so the first one that leads to some results is the least one.
    for results in paths:
        for step in steps:
            reached = tuple([step.run(row) for row in results])
            longer.setdefault(reached, paths[results] + step.comparers)
    return longer


def shortest(network):
    """The first one of the shortest standard networks with the same results."""
    steps = [Network(network.wires, [pair]) for pair in standard_comparers(network.wires)]
    wanted = tuple(_results(network))
    paths = {tuple(plain_rows(network.wires)): ()}
    # The network itself shows that no more comparers than its own are needed.
    for _ in network.comparers:
        if wanted not in paths:
            paths = _one_longer(paths, steps)
    return Network(network.wires, paths[wanted])
