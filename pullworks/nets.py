"""Nets of nodes: their making, what can be asked of them, and their limits."""

from pullworks.errors import InvalidName, InvalidNet, LimitExceeded
from pullworks.kinds import LOOPS, SOURCES, is_node, own_weight
from pullworks.wholes import power

MOST_NODES = 30
MOST_PORTS = 5
MOST_CELLS = 100
MOST_WEIGHT = 200
MOST_LOAD = 10000


class Net:
    """A net of nodes that never changes."""

    def __init__(self, nodes):
        check_nodes(nodes)
        self._nodes = copied(nodes)
        self._places = {node[0]: place for place, node in enumerate(nodes)}
        # Worked out when it is asked for: see plans.py.
        self.plan = None
        check_limits(self)

    def __eq__(self, other):
        return isinstance(other, Net) and self._nodes == other._nodes

    def __len__(self):
        return len(self._nodes)

    def __contains__(self, name):
        return isinstance(name, str) and name in self._places

    def __getitem__(self, name):
        if name not in self:
            raise InvalidName(name)
        return copied(self._nodes[self._places[name]])

    def __iter__(self):
        raise TypeError("a net is not iterated over: ask for its node_list()")

    def node_list(self):
        """Return the nodes."""
        return copied(self._nodes)


def copied(value):
    """Return a value with copies of all lists within it."""
    if isinstance(value, list):
        return [copied(part) for part in value]
    if isinstance(value, tuple):
        return tuple([copied(part) for part in value])
    return value


def check_nodes(nodes):
    """Raise InvalidNet if a value is not a list of nodes that make a net."""
    if not isinstance(nodes, list) or not 1 <= len(nodes) <= MOST_NODES:
        raise InvalidNet(-1)
    kinds = {}
    uses = {}
    for at, node in enumerate(nodes):
        if not is_node(node) or node[0] in kinds or not may_read(node[3], kinds, uses):
            raise InvalidNet(at)
        kinds[node[0]] = node[1]
        for name in node[3]:
            uses[name] = uses.get(name, 0) + 1
    for name in kinds:
        if kinds[name] == "split" and name not in uses:
            raise InvalidNet(-1)


def may_read(inputs, kinds, uses):
    """Tell whether a node may have these inputs behind the nodes with these kinds and uses."""
    for name in inputs:
        if name not in kinds:
            return False
        most = MOST_PORTS if kinds[name] == "split" else 1
        if uses.get(name, 0) + inputs.count(name) > most:
            return False
    return True


def check_limits(net):
    """Raise LimitExceeded if a net passes one of the limits."""
    # The cells come first: without their limit the weight could have billions of digits.
    if cells(net) > MOST_CELLS:
        raise LimitExceeded(MOST_CELLS)
    if weight(net) > MOST_WEIGHT:
        raise LimitExceeded(MOST_WEIGHT)
    if load(net, 1) > MOST_LOAD:
        raise LimitExceeded(MOST_LOAD)


def outlets(net):
    """Return the names of the nodes that are no input."""
    nodes = net.node_list()
    used = {name: True for node in nodes for name in node[3]}
    return [node[0] for node in nodes if node[0] not in used]


def sources_of(net, name):
    """Return the names of the sources from which a node reads, directly or through others."""
    if name not in net:
        raise InvalidName(name)
    nodes = net.node_list()
    read = {name: True}
    # Inputs stand ahead of the nodes that read them, so one way back meets them all.
    for node in nodes[::-1]:
        if node[0] in read:
            for lower in node[3]:
                read[lower] = True
    return [node[0] for node in nodes if node[0] in read and node[1] in SOURCES]


def cells(net):
    """Return how many nodes there are if each port has a copy of what its split reads from."""
    below = {}
    for node in net.node_list():
        below[node[0]] = 1 + sum([below[lower] for lower in node[3]])
    return sum([below[name] for name in outlets(net)])


def weight(net):
    """Return the product of the own weights of the nodes, counted with copies as the cells."""
    below = {}
    for node in net.node_list():
        below[node[0]] = own_weight(node) * product_of([below[lower] for lower in node[3]])
    return product_of([below[name] for name in outlets(net)])


def product_of(numbers):
    """Return the product of a list of integers, 1 for none."""
    result = 1
    for number in numbers:
        result = result * number
    return result


def loops(net):
    """Return the greatest number of nodes that loop on a way from an outlet to a source."""
    below = {}
    for node in net.node_list():
        own = 1 if node[1] in LOOPS else 0
        below[node[0]] = own + max([below[lower] for lower in node[3]], default=0)
    return max([below[name] for name in outlets(net)])


def load(net, depth):
    """Return the load of a net under so many loops of its user; 1 for the net itself."""
    return power(2 * weight(net) + 3, loops(net) + depth)
