"""The texts of networks."""

from neededrows.errors import InvalidText
from neededrows.network import Network

_MOST_WIRES = 12


def write(network):
    """The text of a network."""
    return f"{network.wires}:" + "".join([f" {i}-{j}" for i, j in network.comparers])


def _beginnings():
    return {f"{wires}:": wires for wires in range(1, _MOST_WIRES + 1)}


def _comparers(wires):
    return {f" {i}-{j}": (i, j) for i in range(wires) for j in range(wires) if i != j}


def _agreed(text, start, word):
    """The length of the longest beginning of the word that stands in the text at this place."""
    return max([length for length in range(len(word) + 1) if text.startswith(word[:length], start)])


def _next_word(text, start, words):
    """The one of the words that stands in the text at this place."""
    found = [word for word in words if text.startswith(word, start)]
    if not found:
        raise InvalidText(start + max([_agreed(text, start, word) for word in words], default=0))
    # Behind a word there is no digit, so of 1-1 and 1-11 only the longer one can be meant.
    return max(found, key=len)


def read(text):
    """The network with this text."""
    beginnings = _beginnings()
    word = _next_word(text, 0, beginnings)
    wires, start = beginnings[word], len(word)
    words = _comparers(wires)
    pairs = []
    while start < len(text):
        word = _next_word(text, start, words)
        pairs.append(words[word])
        start += len(word)
    return Network(wires, pairs)
