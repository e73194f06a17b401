"""The judge of the papers that show the least numbers of comparers and of layers."""

from neededrows.fewest import all_layers
from neededrows.network import Network, depth
from neededrows.rows import is_sorted, plain_rows
from neededrows.states import is_unfinished, renamed_row, standard_comparers


def _sorts(wires, comparers):
    """Whether these are the comparers of a standard network that sorts."""
    if not all([0 <= i < j < wires for i, j in comparers]):
        return False
    network = Network(wires, comparers)
    return all([is_sorted(network.run(row)) for row in plain_rows(wires)])


def _is_plain_row(wires, row):
    return len(row) == wires and all([number in (0, 1) for number in row])


def _is_state(wires, state):
    # A state with more rows than there are plain ones need not be gone through: it may be very long.
    if len(state) > (1 << wires) or not all([_is_plain_row(wires, row) for row in state]):
        return False
    return all([before < after for before, after in zip(state, state[1:])])


def _is_level(wires, level):
    return len(level) > 0 and all([_is_state(wires, state) for state, _ in level])


def _is_first_level(wires, level):
    return len(level) == 1 and level[0][0] == tuple(plain_rows(wires))


def _is_last_level(level):
    return all([covers == () and is_unfinished(state) for state, covers in level])


def _is_renaming(wires, names):
    return sorted(names) == list(range(wires))


def _is_cover(wires, cover, following, rows):
    """Whether the cover names a state of the following level that covers the one with these rows."""
    index, names = cover
    if not 0 <= index < len(following) or not _is_renaming(wires, names):
        return False
    return all([renamed_row(row, names) in rows for row in following[index][0]])


def _goes_on(wires, pair, following, moves):
    """Whether a pair of a level has the covers for all moves."""
    state, covers = pair
    if len(covers) != len(moves):
        return False
    for cover, move in zip(covers, moves):
        reached = {move[row]: True for row in state}
        if not _is_cover(wires, cover, following, reached):
            return False
    return True


def _move(wires, step):
    """Where the comparers of a step lead each plain row."""
    network = Network(wires, step)
    return {row: network.run(row) for row in plain_rows(wires)}


def _are_levels(wires, levels, steps):
    """Whether the levels show that no fewer steps sort."""
    if not levels:
        return True
    # The states come first: what follows is asked of rightly made states only.
    if not all([_is_level(wires, level) for level in levels]):
        return False
    if not _is_first_level(wires, levels[0]) or not _is_last_level(levels[-1]):
        return False
    moves = [_move(wires, step) for step in steps]
    for level, following in zip(levels, levels[1:]):
        if not all([_goes_on(wires, pair, following, moves) for pair in level]):
            return False
    return True


def takes_fewest(wires, number, paper):
    """Whether a paper shows that this is the least number of comparers that sort."""
    word, comparers, levels = paper
    steps = [(pair,) for pair in standard_comparers(wires)]
    # Insertion sorts with one comparer for each pair of wires, so no least number is greater;
    # papers for greater ones need not be gone through: they may be very long.
    if word != "fewest" or number > len(steps) or len(comparers) != number or len(levels) != number:
        return False
    return _sorts(wires, comparers) and _are_levels(wires, levels, steps)


def takes_layers(wires, number, paper):
    """Whether a paper shows that this is the least depth of a network that sorts."""
    word, comparers, levels = paper
    # Bricks sort with as many rounds as there are wires, so no least depth is greater.
    if word != "layers" or number > wires or len(levels) != number or not _sorts(wires, comparers):
        return False
    return depth(Network(wires, comparers)) == number and _are_levels(wires, levels, all_layers(wires))
