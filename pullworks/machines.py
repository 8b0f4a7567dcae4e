"""Machines: nets that run."""

from pullworks.checks import check_number, check_outlet
from pullworks.errors import InvalidCall, InvalidName
from pullworks.kinds import SOURCES
from pullworks.nets import Net
from pullworks.plans import plan_of
from pullworks.states import State


class Machine:
    """A net that is pulled and closed at its outlets."""

    def __init__(self, net):
        if not isinstance(net, Net):
            raise InvalidCall("net")
        self._net = net
        self._state = State(plan_of(net))

    def pull(self, outlet):
        """Pull an outlet and return the result."""
        check_outlet(self._state.plan, outlet)
        self._check_running()
        return self._state.advance(outlet, 1)[2]

    def pull_times(self, outlet, n):
        """Pull an outlet n times; return how many results are items and errors, and the last result."""
        check_outlet(self._state.plan, outlet)
        check_number(n, 0, "n")
        self._check_running()
        return self._state.advance(outlet, n)

    def close(self, outlet):
        """Close an outlet."""
        check_outlet(self._state.plan, outlet)
        self._check_running()
        self._state.close(outlet)

    def reads(self, name):
        """Return how many results have been read from a source."""
        self._check_kind(name, SOURCES)
        self._check_running()
        return self._state.reads(name)

    def buffer(self, name):
        """Return how many results a split holds."""
        self._check_kind(name, ("split",))
        self._check_running()
        return self._state.buffered(name)

    def notes(self):
        """Return the notes that have been written, in order."""
        return [self._net[name][2][0] for name in self._state.writers]

    def ended(self, outlet):
        """Tell whether an outlet is ended."""
        check_outlet(self._state.plan, outlet)
        return self._state.ended(outlet)

    def stuck(self):
        """Return the name of the node that goes on for ever, or None."""
        return self._state.looping

    def copy(self):
        """Return a machine in the same state."""
        return machine_in(self._net, self._state.copied())

    def _check_kind(self, name, kinds):
        """Raise InvalidName for a value that is not the name of a node of one of these kinds."""
        if name not in self._net or self._state.plan.kinds[name] not in kinds:
            raise InvalidName(name)

    def _check_running(self):
        """Raise InvalidCall if the machine is stuck."""
        if self._state.looping is not None:
            raise InvalidCall("stuck")


def machine_in(net, state):
    """Return a machine for a net that is in a state, which it takes as its own."""
    machine = Machine(net)
    machine._state = state
    return machine
