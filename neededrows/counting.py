"""Networks of balancers, and whether they count."""

from neededrows.network import depth


def counted(network, tokens):
    """The numbers of tokens on the wires behind the balancers."""
    numbers = list(tokens)
    for i, j in network.comparers:
        together = numbers[i] + numbers[j]
        numbers[i], numbers[j] = (together + 1) // 2, together // 2
    return tuple(numbers)


def _is_step(numbers):
    total, wires = sum(numbers), len(numbers)
    return all([number == (total - k + wires - 1) // wires for k, number in enumerate(numbers)])


def _on_one_wire(wires, wire, tokens):
    return (0,) * wire + (tokens,) + (0,) * (wires - 1 - wire)


def _spread(number, wires, limit):
    """The digits of a number as tokens on the wires, each less than the limit."""
    tokens = []
    for _ in range(wires):
        number, token = divmod(number, limit)
        tokens.append(token)
    return tuple(tokens)


def counting(network):
    """Whether a network counts, and if not, tokens for which its result is no step."""
    wires, deep = network.wires, depth(network)
    for wire in range(wires):
        tokens = _on_one_wire(wires, wire, 2 << deep)
        if not _is_step(counted(network, tokens)):
            return (False, tokens)
    for number in range(1 << (deep * wires)):
        tokens = _spread(number, wires, 1 << deep)
        if not _is_step(counted(network, tokens)):
            return (False, tokens)
    return (True, None)
