"""The state of a machine: how often each outlet has been pulled, what is closed, and which notes have been written.

All else follows from the tapes. Pulls on a closed outlet are not counted: they give the end and change nothing.
"""

from pullworks.lines import least_of


class State:
    """The state of a machine."""

    def __init__(self, plan):
        self.plan = plan
        self.pulls = {name: 0 for name in plan.outlets}
        self.closed = {}
        self.writers = []
        self.looping = None

    def copied(self):
        """Return an equal state."""
        other = State(self.plan)
        other.pulls = dict(self.pulls)
        other.closed = dict(self.closed)
        other.writers = list(self.writers)
        other.looping = self.looping
        return other

    def advance(self, outlet, many):
        """Pull an outlet so many times; return how many results are items and errors, and the last result."""
        if outlet in self.closed:
            return 0, 0, ("end",) if many > 0 else None
        tape = self.plan.tapes[outlet]
        start = self.pulls[outlet]
        never = tape.stop("never")
        stop = start + many
        asked = stop
        if never is not None and never < stop:
            stop = never
            asked = never + 1
            self.looping = tape.result(never)[1]
        self.pulls[outlet] = stop
        for pull, closing in self.plan.moments[outlet]:
            if start <= pull < asked:
                self.write(closing)
        last = tape.result(asked - 1) if many > 0 else None
        return tape.items_in(stop) - tape.items_in(start), tape.errors_in(stop) - tape.errors_in(start), last

    def write(self, closing):
        """Write the note of a closing node unless it has been written."""
        if closing not in self.writers:
            self.writers.append(closing)

    def close(self, outlet):
        """Close an outlet."""
        for name in self.closing_order(outlet):
            if self.plan.kinds[name] == "closing":
                self.write(name)
        self.closed[outlet] = True

    def closing_order(self, outlet):
        """Return the names of the nodes that would be closed, in this order."""
        if outlet in self.closed:
            return []
        closed = self.closed_nodes()
        ports = {}
        for name in self.plan.kinds:
            ports[name] = len([user for user, _ in self.plan.users[name] if user not in closed])
        found = []
        self.close_below(outlet, ports, found)
        return found

    def close_below(self, name, ports, found):
        """Put down a node that is closed, and all that is closed with it; ports are the uses that are not closed."""
        found.append(name)
        for lower in self.plan.inputs[name]:
            ports[lower] -= 1
            if ports[lower] == 0:
                self.close_below(lower, ports, found)

    def closed_nodes(self):
        """Return a dict that has the names of all closed nodes as its keys."""
        found = {}
        for node in self.plan.nodes[::-1]:
            users = self.plan.users[node[0]]
            if node[0] in self.closed or users and all([user in found for user, _ in users]):
                found[node[0]] = True
        return found

    def reads(self, source):
        """Return how many results have been read from a source."""
        pulls = self.plan.pulls_within(self.pulls)
        return self.plan.tapes[source].used(0, pulls[source])

    def buffered(self, split):
        """Return how many results a split holds."""
        pulls = self.plan.pulls_within(self.pulls)
        closed = self.closed_nodes()
        ports = [port for port in self.plan.users[split] if port[0] not in closed]
        if not ports:
            return 0
        end = self.plan.tapes[split].stop("end")
        passed = min([self.plan.pulls_by(user, place, pulls) for user, place in ports])
        return least_of([pulls[split], end]) - least_of([passed, end])

    def ended(self, outlet):
        """Tell whether an outlet is ended."""
        behind = self.plan.ended_behind(outlet)
        return outlet in self.closed or behind is not None and self.pulls[outlet] >= behind
