"""Papers, looked through by the words of the document and by nothing of the program."""

from itertools import combinations, product

# The least numbers for 1 to 4 wires.
LEAST = {"fewest": {1: 0, 2: 1, 3: 3, 4: 5}, "layers": {1: 0, 2: 1, 3: 3, 4: 3}}


def plain(wires):
    """All plain rows, ascending."""
    return tuple(product((0, 1), repeat=wires))


def pairs_of(wires):
    """All standard comparers, ascending."""
    return [(i, j) for i in range(wires) for j in range(i + 1, wires)]


def layers_of(wires):
    """All layers by the words of the document: sets of comparers without a common wire."""
    found = []
    for many in range(1, wires + 1):
        for chosen in combinations(pairs_of(wires), many):
            if len({wire for pair in chosen for wire in pair}) == 2 * many:
                found.append(chosen)
    return sorted(found)


def steps_of(word, wires):
    """For each pair of covers, the comparers that lead on."""
    return layers_of(wires) if word == "layers" else [(pair,) for pair in pairs_of(wires)]


def result_of(row, comparers):
    """The result of a row of any numbers."""
    numbers = list(row)
    for i, j in comparers:
        numbers[i], numbers[j] = min(numbers[i], numbers[j]), max(numbers[i], numbers[j])
    return tuple(numbers)


def led_by(state, comparers):
    """The state of the results."""
    return tuple(sorted({result_of(row, comparers) for row in state}))


def renamed_by(row, names):
    """The row to which a row leads by a renaming."""
    return tuple(row[names.index(wire)] for wire in range(len(names)))


def covers_by(state, covered, names):
    """Whether a state covers another one by a renaming."""
    return {renamed_by(row, names) for row in state} <= set(covered)


def sorts_all(wires, comparers):
    """Whether comparers sort all plain rows."""
    return all(list(result_of(row, comparers)) == sorted(row) for row in plain(wires))


def depth_of(comparers):
    """The number of layers."""
    places = []
    for at, pair in enumerate(comparers):
        earlier = [place for place, other in zip(places, comparers[:at]) if set(other) & set(pair)]
        places.append(max(earlier, default=0) + 1)
    return max(places, default=0)


def has_twins(state):
    """Whether two unlike rows have equal numbers of noughts."""
    return any(row != other and row.count(0) == other.count(0) for row, other in combinations(state, 2))


def wrong_state(wires, state):
    """What is wrong with a state, or None."""
    if list(state) != sorted(set(state)):
        return "rows out of order or twice"
    if any(row not in plain(wires) for row in state):
        return "no plain row"
    return None


def wrong_covers(state, covers, following, steps):
    """What is wrong with the covers of a state, or None."""
    if len(covers) != len(steps):
        return "number of covers"
    for (index, names), step in zip(covers, steps):
        if index not in range(len(following)):
            return "index"
        if sorted(names) != list(range(len(state[0]) if state else len(names))):
            return "names"
        if not covers_by(following[index][0], led_by(state, step), names):
            return "not covered"
    return None


def wrong_levels(wires, levels, steps):
    """What is wrong with levels, or None."""
    if levels and (len(levels[0]) != 1 or levels[0][0][0] != plain(wires)):
        return "first level"
    for at, level in enumerate(levels):
        if not level:
            return "no pairs"
        for state, covers in level:
            wrong = wrong_state(wires, state)
            if wrong is None and at + 1 < len(levels):
                wrong = wrong_covers(state, covers, levels[at + 1], steps)
            if wrong is None and at + 1 == len(levels):
                wrong = "last level" if covers != () or not has_twins(state) else None
            if wrong is not None:
                return wrong
    return None


def wrong_paper(word, wires, number, paper):
    """What is wrong with a paper for a number, or None."""
    if paper[0] != word:
        return "word"
    comparers, levels = paper[1:]
    if any(pair not in pairs_of(wires) for pair in comparers):
        return "comparers"
    if number != (depth_of(comparers) if word == "layers" else len(comparers)):
        return "number"
    if not sorts_all(wires, comparers):
        return "no sorting"
    if len(levels) != number:
        return "number of levels"
    return wrong_levels(wires, levels, steps_of(word, wires))
