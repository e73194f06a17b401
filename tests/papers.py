"""Papers, looked through by the words of the document and by nothing of the program."""

from itertools import combinations, permutations, product

# The least numbers for 1 to 4 wires.
LEAST = {"fewest": {1: 0, 2: 1, 3: 3, 4: 5}, "layers": {1: 0, 2: 1, 3: 3, 4: 3}}


def plain(wires):
    """All plain rows, ascending."""
    return tuple(product((0, 1), repeat=wires))


def pairs_of(wires):
    """All standard comparers, ascending."""
    return [(i, j) for i in range(wires) for j in range(i + 1, wires)]


def layers_of(wires):
    """All layers by the words of the document: sets of comparers without a common wire."""
    found = []
    for many in range(1, wires + 1):
        for chosen in combinations(pairs_of(wires), many):
            if len({wire for pair in chosen for wire in pair}) == 2 * many:
                found.append(chosen)
    return sorted(found)


def steps_of(word, wires):
    """For each pair of covers, the comparers that lead on."""
    return layers_of(wires) if word == "layers" else [(pair,) for pair in pairs_of(wires)]


def result_of(row, comparers):
    """The result of a row of any numbers."""
    numbers = list(row)
    for i, j in comparers:
        numbers[i], numbers[j] = min(numbers[i], numbers[j]), max(numbers[i], numbers[j])
    return tuple(numbers)


def led_by(state, comparers):
    """The state of the results."""
    return tuple(sorted({result_of(row, comparers) for row in state}))


def renamed_by(row, names):
    """The row to which a row leads by a renaming."""
    return tuple(row[names.index(wire)] for wire in range(len(names)))


def covers_by(state, covered, names):
    """Whether a state covers another one by a renaming."""
    return {renamed_by(row, names) for row in state} <= set(covered)


def sorts_all(wires, comparers):
    """Whether comparers sort all plain rows."""
    return all(list(result_of(row, comparers)) == sorted(row) for row in plain(wires))


def depth_of(comparers):
    """The number of layers."""
    places = []
    for at, pair in enumerate(comparers):
        earlier = [place for place, other in zip(places, comparers[:at]) if set(other) & set(pair)]
        places.append(max(earlier, default=0) + 1)
    return max(places, default=0)


def has_twins(state):
    """Whether two unlike rows have equal numbers of noughts."""
    return any(row != other and row.count(0) == other.count(0) for row, other in combinations(state, 2))


def wrong_state(wires, state):
    """What is wrong with a state, or None."""
    if list(state) != sorted(set(state)):
        return "rows out of order or twice"
    if any(row not in plain(wires) for row in state):
        return "no plain row"
    return None


def wrong_covers(wires, pair, following, steps):
    """What is wrong with the covers of a state, or None."""
    state, covers = pair
    if len(covers) != len(steps):
        return "number of covers"
    for (index, names), step in zip(covers, steps):
        if index not in range(len(following)):
            return "index"
        if sorted(names) != list(range(wires)):
            return "names"
        if not covers_by(following[index][0], led_by(state, step), names):
            return "not covered"
    return None


def wrong_states(wires, levels):
    """What is wrong with the states of the levels, or None."""
    if levels and (len(levels[0]) != 1 or levels[0][0][0] != plain(wires)):
        return "first level"
    if () in levels:
        return "no pairs"
    found = [wrong_state(wires, state) for level in levels for state, _ in level]
    return next((wrong for wrong in found if wrong is not None), None)


def wrong_levels(wires, levels, steps):
    """What is wrong with levels, or None."""
    wrong = wrong_states(wires, levels)
    if wrong is not None:
        return wrong
    for level, following in zip(levels, levels[1:]):
        for pair in level:
            wrong = wrong_covers(wires, pair, following, steps)
            if wrong is not None:
                return wrong
    if any(covers != () or not has_twins(state) for level in levels[-1:] for state, covers in level):
        return "last level"
    return None


def wrong_paper(word, wires, number, paper):
    """What is wrong with a paper for a number, or None."""
    if paper[0] != word:
        return "word"
    comparers, levels = paper[1:]
    if any(pair not in pairs_of(wires) for pair in comparers):
        return "comparers"
    if number != (depth_of(comparers) if word == "layers" else len(comparers)):
        return "number"
    if not sorts_all(wires, comparers):
        return "no sorting"
    if len(levels) != number:
        return "number of levels"
    return wrong_levels(wires, levels, steps_of(word, wires))


def cover_for(states, covered, wires):
    """The last one of the states that covers, with the last renaming by which it does, or None."""
    for index in reversed(range(len(states))):
        for names in reversed(list(permutations(range(wires)))):
            if covers_by(states[index], covered, names):
                return (index, names)
    return None


def paper_with(word, wires, comparers, all_states):
    """A paper with these states in its levels, and covers where there are any."""
    levels = []
    for states, following in zip(all_states, all_states[1:] + [None]):
        level = []
        for state in states:
            steps = [] if following is None else steps_of(word, wires)
            level.append((state, tuple(cover_for(following, led_by(state, step), wires) for step in steps)))
        levels.append(tuple(level))
    return (word, tuple(comparers), tuple(levels))


def states_of(paper):
    """The states of each level of a paper."""
    return [[state for state, _ in level] for level in paper[2]]


def all_reached(word, wires, number):
    """For each level all states that are reached, without any left out that others cover."""
    found = [[plain(wires)]]
    for _ in range(number - 1):
        reached = [led_by(state, step) for state in found[-1] for step in steps_of(word, wires)]
        found.append(sorted(set(reached)))
    return found[:number]
