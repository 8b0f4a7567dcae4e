"""Nets that are run call by call, with breakpoints, forwards and backwards."""

from pullworks.breakpoints import are_breaks, are_light, first_break
from pullworks.checks import FAR, check_number, check_outlet
from pullworks.errors import InvalidBound, InvalidCall, InvalidRecord, LimitExceeded
from pullworks.items import MOST_TESTED
from pullworks.machines import machine_in
from pullworks.nets import Net, copied, weight
from pullworks.plans import plan_of
from pullworks.states import State
from pullworks.wholes import is_between
from pullworks.words import is_one_of

MOST_CALLS = 1000


class Playing:
    """A net that is run call by call."""

    def __init__(self, net):
        if not isinstance(net, Net):
            raise InvalidCall("net")
        self._net = net
        self._state = State(plan_of(net))
        self._breaks = []
        self._log = []
        # The state and the breakpoints ahead of each call of the log.
        self._past = []

    def __eq__(self, other):
        return isinstance(other, Playing) and self._net == other._net and self._log == other._log

    def base_net(self):
        """Return the net."""
        return self._net

    def present(self):
        """Return a machine in the present state."""
        return machine_in(self._net, self._state.copied())

    def set_breaks(self, breaks):
        """Replace the breakpoints."""
        if not are_breaks(self._state.plan, breaks):
            raise InvalidBound("breaks")
        if not are_light(weight(self._net), breaks):
            raise LimitExceeded(MOST_TESTED)
        self._note(("breaks", copied(breaks)))
        self._breaks = copied(breaks)

    def go(self, outlet, n):
        """Pull an outlet n times, or up to the first breakpoint; return (pulls, last result, why)."""
        check_outlet(self._state.plan, outlet)
        check_number(n, 0, "n")
        self._check_running()
        self._note(("go", outlet, n))
        return gone_on(self._state, outlet, n, self._breaks)

    def close(self, outlet):
        """Close an outlet."""
        check_outlet(self._state.plan, outlet)
        self._check_running()
        self._note(("close", outlet))
        self._state.close(outlet)

    def log(self):
        """Return the calls that have not failed."""
        return copied(self._log)

    def undo(self, count):
        """Go back to what was so before the last calls."""
        if not is_between(count, 0, len(self._log)):
            raise InvalidBound("count")
        if count > 0:
            left = len(self._log) - count
            self._state, self._breaks = self._past[left]
            self._log = self._log[:left]
            self._past = self._past[:left]

    def _check_running(self):
        """Raise InvalidCall if a pull was never answered."""
        if self._state.looping is not None:
            raise InvalidCall("stuck")

    def _note(self, call):
        """Put down a call that does not fail any more, unless the log is full, and what is so before it."""
        if len(self._log) >= MOST_CALLS:
            raise LimitExceeded(MOST_CALLS)
        self._log.append(call)
        self._past.append((self._state, self._breaks))
        self._state = self._state.copied()


def gone_on(state, outlet, many, breaks):
    """Pull an outlet so many times, or up to the first breakpoint; return what Playing.go returns."""
    here = state.pulls[outlet]
    found = first_break(state, outlet, breaks)
    never = None if outlet in state.closed else state.plan.tapes[outlet].stop("never")
    if found is not None and found[0] < here + many and (never is None or found[0] < never):
        pulls = found[0] + 1 - here
        return pulls, state.advance(outlet, pulls)[2], found[1]
    if never is not None and never < here + many:
        last = state.advance(outlet, never - here)[2]
        state.advance(outlet, 1)
        return never - here, last, "never"
    return many, state.advance(outlet, many)[2], None


def replay(net, log):
    """Return the Playing of a net in which the calls of a log have been made."""
    playing = Playing(net)
    if not isinstance(log, list) or len(log) > MOST_CALLS:
        raise InvalidRecord(-1)
    plan = plan_of(net)
    for at, call in enumerate(log):
        if not is_call(plan, call):
            raise InvalidRecord(at)
    for call in log:
        if call[0] == "breaks":
            playing.set_breaks(call[1])
        elif call[0] == "go":
            playing.go(call[1], call[2])
        else:
            playing.close(call[1])
    return playing


def is_call(plan, value):
    """Tell whether a value is a call as a log has it."""
    if not isinstance(value, tuple) or not value or not is_one_of(value[0], ("breaks", "go", "close")):
        return False
    if value[0] == "breaks":
        return len(value) == 2 and are_breaks(plan, value[1])
    names = tuple(plan.outlets)
    if value[0] == "close":
        return len(value) == 2 and is_one_of(value[1], names)
    return len(value) == 3 and is_one_of(value[1], names) and is_between(value[2], 0, FAR)
