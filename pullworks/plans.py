"""What is worked out once for a net: the tape of each node, who reads from whom, and when notes are written."""

from pullworks.joiners import JOINERS
from pullworks.kinds import SOURCES
from pullworks.loopers import LOOPERS
from pullworks.nets import outlets
from pullworks.singles import SINGLES
from pullworks.starts import source
from pullworks.tapes import Tape


def plan_of(net):
    """Return the plan of a net; a net never changes, so its plan is kept with it."""
    if net.plan is None:
        net.plan = Plan(net.node_list(), outlets(net))
    return net.plan


def tape_of(node, lower):
    """Return the tape of a node over the tapes of its inputs."""
    kind = node[1]
    tape = Tape()
    if kind in SOURCES:
        source(node, tape)
    elif kind in JOINERS:
        make = JOINERS[kind]
        make(node, lower, tape)
    elif kind in LOOPERS:
        make = LOOPERS[kind]
        make(node, lower[0], tape)
    else:
        make = SINGLES[kind]
        make(node, lower[0], tape)
    tape.settle()
    return tape


class Plan:
    """The tapes of a net, the uses of its nodes as inputs, and for each node what is below, and the moments of notes.

    The moments of a node are tuples (pull, closing node), in the order in which the closing nodes below it, and itself,
    would write their notes if it was pulled alone and each port had a copy of its own of all that its split reads from.
    """

    def __init__(self, nodes, names):
        self.nodes = nodes
        self.outlets = names
        self.kinds = {node[0]: node[1] for node in self.nodes}
        self.parameters = {node[0]: node[2] for node in self.nodes}
        self.inputs = {node[0]: node[3] for node in self.nodes}
        self.tapes = {}
        self.users = {node[0]: [] for node in self.nodes}
        self.moments = {}
        self.below = {}
        for node in self.nodes:
            self.set_up(node)

    def set_up(self, node):
        """Work out what is kept of a node, behind its inputs."""
        name, inputs = node[0], node[3]
        self.tapes[name] = tape_of(node, [self.tapes[lower] for lower in inputs])
        for place, lower in enumerate(inputs):
            self.users[lower].append((name, place))
        self.moments[name] = moments_of(node, self.tapes[name], [self.moments[lower] for lower in inputs])
        self.below[name] = {name: True}
        for lower in inputs:
            self.below[name].update(self.below[lower])

    def pulls_within(self, pulls):
        """Return the number of pulls on each node for a number of pulls on each outlet; for a split, on its tape."""
        found = {}
        for node in self.nodes[::-1]:
            name = node[0]
            if name in pulls:
                found[name] = pulls[name]
            else:
                found[name] = max([self.pulls_by(user, place, found) for user, place in self.users[name]], default=0)
        return found

    def ended_behind(self, name):
        """Return behind how many pulls a node is ended, None if it never is."""
        tape = self.tapes[name]
        end = tape.stop("end")
        if end is None:
            return None
        # The error of such a node is its last result ahead of the end, and it is ended already behind the error.
        dead = self.kinds[name] in ("dying", "closing") and tape.errors_in(end) > 0
        return end if dead else end + 1

    def note_pull(self, name):
        """Return the pull in which a closing node writes its note by itself, None if it never does."""
        stretches = self.tapes[name].stretches
        return min([stretch.start for stretch in stretches if stretch.what in ("error", "end")], default=None)

    def error_pull(self, name):
        """Return the pull in which a fault raises its error, None if it ends before, or never comes there."""
        number = self.parameters[name][0]
        return number if self.tapes[name].stretch_of(number).what == "error" else None

    def pulls_by(self, user, place, pulls):
        """Return how often a node has pulled one of its inputs."""
        return self.tapes[user].used(place, pulls[user])


def moments_of(node, tape, below):
    """Return the moments of a node over the moments of its inputs."""
    found = []
    for place, moments in enumerate(below):
        for number, (pull, closing) in enumerate(moments):
            at = tape.pull_using(place, pull)
            if at is not None:
                found.append((at, tape.rank(place, at), number, closing))
    moments = [(at, closing) for at, _, _, closing in sorted(found)]
    if node[1] == "closing":
        moments.extend([(stretch.start, node[0]) for stretch in tape.stretches if stretch.what in ("error", "end")][:1])
    return moments
