"""How few comparers and how few layers sort, with papers that show it."""

from itertools import permutations

from neededrows.network import Network
from neededrows.rows import plain_rows
from neededrows.states import is_unfinished, renamed_row, standard_comparers


def led(state, comparers):
    """The state to which comparers lead, one behind the other."""
    if not state:
        return ()
    network = Network(len(state[0]), comparers)
    results = {network.run(row): True for row in state}
    return tuple(sorted(results))


def _are_apart(pair, other):
    return pair[0] not in other and pair[1] not in other


def _layers_of(pairs):
    """The layers, ascending, that have only these comparers; these are ascending, too."""
    found = []
    for at, pair in enumerate(pairs):
        behind = [other for other in pairs[at + 1:] if _are_apart(pair, other)]
        found.append((pair,))
        found.extend([(pair,) + rest for rest in _layers_of(behind)])
    return found


def all_layers(wires):
    """The list of all layers, ascending."""
    return _layers_of(standard_comparers(wires))


def _renaming(state, covered):
    """A renaming by which each row of the state leads to one that is covered, or None."""
    if len(state) > len(covered):
        return None
    for names in permutations(range(len(state[0]))):
        if all([renamed_row(row, names) in covered for row in state]):
            return names
    return None


def _cover(states, covered):
    """The index of the first state that covers a state, with a renaming, or None."""
    rows = {row: True for row in covered}
    for index, state in enumerate(states):
        names = _renaming(state, rows)
        if names is not None:
            return (index, names)
    return None


def _least(states):
    """Of these states only such as cover the others."""
    kept = []
    # A state that covers another one has no more rows.
    for state in sorted(states, key=len):
        if _cover(kept, state) is None:
            kept.append(state)
    return kept


def _followed(level, steps):
    """The next level; a level is a dict of states and of the comparers that led to each."""
    reached = {}
    for state in level:
        for step in steps:
            reached.setdefault(led(state, step), level[state] + step)
    return {state: reached[state] for state in _least(list(reached))}


def _with_covers(level, following, steps):
    """The level of the paper: each state with the covers of the states to which the steps lead."""
    states = list(following)
    return tuple([(state, tuple([_cover(states, led(state, step)) for step in steps])) for state in level])


def _searched(wires, steps):
    """The comparers of as few steps as sort, and the levels that show that fewer do not."""
    found = [{tuple(plain_rows(wires)): ()}]
    while all([is_unfinished(state) for state in found[-1]]):
        found.append(_followed(found[-1], steps))
    finished = found.pop()
    # Standard comparers keep the sorted rows, so a finished state has no others.
    paths = [finished[state] for state in finished if not is_unfinished(state)]
    levels = [_with_covers(level, following, steps) for level, following in zip(found, found[1:])]
    last = [tuple([(state, ()) for state in level]) for level in found[-1:]]
    return (paths[0], tuple(levels + last))


def fewest(wires):
    """The least number of comparers that sort, and the paper for it."""
    comparers, levels = _searched(wires, [(pair,) for pair in standard_comparers(wires)])
    return (len(levels), ("fewest", comparers, levels))


def fewest_layers(wires):
    """The least depth of a network that sorts, and the paper for it."""
    comparers, levels = _searched(wires, all_layers(wires))
    return (len(levels), ("layers", comparers, levels))
