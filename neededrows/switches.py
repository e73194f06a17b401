"""Switches, and how to set them for every order."""


def switched(row, pairs, settings):
    """The row behind the switches, of which those that are set exchange their numbers."""
    numbers = list(row)
    for (i, j), is_set in zip(pairs, settings):
        if is_set:
            numbers[i], numbers[j] = numbers[j], numbers[i]
    return tuple(numbers)


def _switches_among(wires):
    if len(wires) < 2:
        return []
    first = [(wires[k], wires[k + 1]) for k in range(0, len(wires) - 1, 2)]
    # One switch can be spared at the end, where the number of wires is even.
    last = first[:(len(wires) - 1) // 2]
    return first + _switches_among(wires[::2]) + _switches_among(wires[1::2]) + last


def switches(wires):
    """The list of switches that can be set for every order of these wires."""
    return _switches_among(list(range(wires)))


def _sources(order):
    return [order.index(wire) for wire in range(len(order))]


def _decided(order):
    """The wire whose number has no choice, and whether it goes through the odd wires."""
    last = len(order) - 1
    if len(order) % 2 == 1:
        return (last, False)
    return (order.index(last), True)


def _odd_ways(order):
    """For each wire, whether its number goes through the odd wires."""
    wires, sources = len(order), _sources(order)
    ways = [None] * wires
    for start, is_odd in [_decided(order)] + [(k, False) for k in range(wires)]:
        wire = start
        # An odd number of wires has a last one without a neighbour. All that it decides is
        # decided first, so that no other way leads there.
        while ways[wire] is None:
            ways[wire] = is_odd
            neighbour = order[wire] ^ 1
            if neighbour < wires:
                ways[sources[neighbour]] = not is_odd
                wire = sources[neighbour] ^ 1
    return ways


def settings(order):
    """The settings of the switches that bring the number of each wire w onto the wire order[w]."""
    wires = len(order)
    if wires < 2:
        return ()
    ways, sources = _odd_ways(order), _sources(order)
    first = tuple([ways[wire] for wire in range(0, wires - 1, 2)])
    last = tuple([ways[sources[wire]] for wire in range(0, wires - 2, 2)])
    evens = tuple([order[wire] // 2 for wire in range(wires) if not ways[wire]])
    odds = tuple([order[wire] // 2 for wire in range(wires) if ways[wire]])
    return first + settings(evens) + settings(odds) + last
