"""The names of the interface, where they are defined, and their arguments."""

import importlib
import inspect
import unittest

from neededrows.adjacent import missing, sorts_adjacent
from neededrows.alike import parted, straight
from neededrows.builders import batcher, bitonic_merging, bricks, bubbles, insertion, merging
from neededrows.counting import counted, counting
from neededrows.distance import early, late, pruned, shortest
from neededrows.errors import InvalidNetwork, InvalidText, NetworkError
from neededrows.fewest import all_layers, fewest, fewest_layers, led
from neededrows.forms import by_sets, idle, sets, trimmed
from neededrows.judge import takes_fewest, takes_layers
from neededrows.needed import does, needed
from neededrows.network import Network, joined, layers, mirrored, renamed, widened
from neededrows.rows import is_sorted
from neededrows.switches import settings, switched, switches
from neededrows.tasks import asked, right
from neededrows.texts import read, write
from neededrows.witness import exact, witness

FUNCTIONS = {
    "network": {
        "mirrored": ["network"],
        "renamed": ["network", "names"],
        "joined": ["first", "second"],
        "widened": ["network", "wires", "shift"],
        "layers": ["network"],
        "depth": ["network"],
    },
    "rows": {"is_sorted": ["row"], "plain_rows": ["wires"], "noughts": ["row"]},
    "tasks": {"asked": ["wires", "task", "row"], "right": ["task", "row", "result"]},
    "needed": {"needed": ["wires", "task"], "does": ["network", "task"]},
    "witness": {"witness": ["row"], "exact": ["network", "row"]},
    "alike": {"parted": ["network", "other"], "straight": ["network"]},
    "forms": {
        "sets": ["network", "wire"],
        "by_sets": ["found", "row"],
        "idle": ["network"],
        "trimmed": ["network"],
    },
    "adjacent": {"sorts_adjacent": ["network"], "missing": ["wires", "a"]},
    "builders": {
        "insertion": ["wires"],
        "bubbles": ["wires"],
        "bricks": ["wires", "rounds"],
        "merging": ["p", "q"],
        "batcher": ["wires"],
        "bitonic_merging": ["wires"],
    },
    "distance": {
        "late": ["network"],
        "early": ["network"],
        "pruned": ["network", "wanted"],
        "shortest": ["network"],
    },
    "fewest": {
        "fewest": ["wires"],
        "fewest_layers": ["wires"],
        "all_layers": ["wires"],
        "led": ["state", "comparers"],
    },
    "switches": {
        "switched": ["row", "pairs", "settings"],
        "switches": ["wires"],
        "settings": ["order"],
    },
    "counting": {"counted": ["network", "tokens"], "counting": ["network"]},
    "judge": {
        "takes_fewest": ["wires", "number", "paper"],
        "takes_layers": ["wires", "number", "paper"],
    },
    "texts": {"write": ["network"], "read": ["text"]},
}


class Functions(unittest.TestCase):

    def test_each_is_defined_in_its_file_with_its_arguments(self):
        for module, functions in FUNCTIONS.items():
            found = importlib.import_module("neededrows." + module)
            for name, arguments in functions.items():
                function = getattr(found, name)
                self.assertTrue(inspect.isfunction(function), name)
                self.assertEqual(function.__module__, "neededrows." + module)
                self.assertEqual(list(inspect.signature(function).parameters), arguments)

    def test_arguments_may_be_named(self):
        network = Network(comparers=[(0, 1)], wires=2)
        self.assertEqual(network.run(row=(2, 1)), (1, 2))
        self.assertEqual(mirrored(network=network), network)
        self.assertEqual(renamed(names=(1, 0), network=network), Network(2, [(1, 0)]))
        self.assertEqual(joined(second=Network(2, []), first=network), network)
        self.assertEqual(widened(shift=1, wires=3, network=network), Network(3, [(1, 2)]))
        self.assertEqual(layers(network=network), [[(0, 1)]])
        self.assertIs(is_sorted(row=(1, 2)), True)
        self.assertIs(asked(row=(1, 0), task=("merge", 1), wires=2), True)
        self.assertIs(right(result=(0, 1), row=(1, 0), task=("sort",)), True)
        self.assertEqual(needed(task=("sort",), wires=2), [(1, 0)])
        self.assertEqual(does(task=("sort",), network=network), (True, None))
        self.assertEqual(witness(row=(1, 0)), Network(2, []))
        self.assertIsNone(exact(row=(1, 0), network=network))
        self.assertEqual(parted(other=network, network=Network(2, [])), (1, 0))
        self.assertEqual(straight(network=network), (network, (0, 1)))
        self.assertEqual(sets(wire=0, network=network), [(0, 1)])
        self.assertEqual(by_sets(row=(4, 3), found=[(0, 1)]), 3)
        self.assertEqual(idle(network=network), [])
        self.assertEqual(trimmed(network=network), network)
        self.assertIs(sorts_adjacent(network=network), True)
        self.assertEqual(missing(a=1, wires=2), Network(2, []))
        self.assertEqual([insertion(wires=2), bubbles(wires=2), batcher(wires=2)], [network] * 3)
        self.assertEqual([bricks(rounds=1, wires=2), merging(q=1, p=1), bitonic_merging(wires=2)], [network] * 3)
        self.assertEqual([late(network=network), early(network=network)], [0, 0])
        self.assertEqual(pruned(wanted=(0,), network=network), network)
        self.assertEqual(shortest(network=network), network)
        self.assertEqual([fewest(wires=1)[0], fewest_layers(wires=1)[0]], [0, 0])
        self.assertEqual(all_layers(wires=2), [((0, 1),)])
        self.assertEqual(led(comparers=[(0, 1)], state=((1, 0),)), ((0, 1),))
        self.assertEqual(switched(settings=(True,), pairs=[(0, 1)], row=(1, 2)), (2, 1))
        self.assertEqual((switches(wires=2), settings(order=(1, 0))), ([(0, 1)], (True,)))
        self.assertEqual(counted(tokens=(3, 0), network=network), (2, 1))
        self.assertEqual(counting(network=network), (True, None))
        self.assertIs(takes_fewest(paper=("fewest", (), ()), number=0, wires=1), True)
        self.assertIs(takes_layers(paper=("layers", (), ()), number=0, wires=1), True)
        self.assertEqual((write(network=network), read(text="2: 0-1")), ("2: 0-1", network))


class Classes(unittest.TestCase):

    def test_each_is_defined_in_its_file(self):
        for error in (NetworkError, InvalidNetwork, InvalidText):
            self.assertEqual(error.__module__, "neededrows.errors")
        self.assertEqual(Network.__module__, "neededrows.network")

    def test_what_is_listed_for_a_class_stands_in_the_class_itself(self):
        self.assertTrue(inspect.isfunction(vars(Network)["run"]))
        self.assertTrue(inspect.isfunction(vars(Network)["__eq__"]))
        self.assertIsInstance(vars(Network)["is_standard"], property)

    def test_networks_that_are_made_are_networks(self):
        network = Network(2, [(0, 1)])
        made = (mirrored(network), renamed(network, (0, 1)), joined(network, network), widened(network, 2, 0))
        made += (witness((1, 0, 1)), straight(network)[0], trimmed(network), missing(3, 1))
        made += (insertion(3), bubbles(3), bricks(3, 3), merging(2, 1), batcher(3), bitonic_merging(4))
        for found in made + (pruned(network, (1,)), shortest(network), read("2: 0-1")):
            self.assertIs(type(found), Network)
            self.assertIs(type(found.wires), int)
            self.assertIs(type(found.comparers), tuple)


if __name__ == "__main__":
    unittest.main()
