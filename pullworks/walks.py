"""Walks through pulls, event by event; pulls ahead of the first event that is looked for are passed at once."""

from pullworks.kinds import SOURCES
from pullworks.lines import least_of

# Up to so many pulls on an input are made one by one without a look at what comes of all of them.
FEW = 3


class Walk:
    """All nodes of a net between two events: how often they and their ports have been pulled.

    A walk looks for the event with a number, for a read of a source, or for the note of a closing node, and puts down
    the events from this one on, at most so many, each with its number. It keeps what is so right behind the last one.
    """

    def __init__(self, plan, pulls, writers, number):
        self.plan = plan
        self.counts = plan.pulls_within(pulls)
        self.port_counts = {}
        for name in plan.kinds:
            for place, _ in enumerate(plan.inputs[name]):
                self.port_counts[(name, place)] = plan.pulls_by(name, place, self.counts)
        self.writers = list(writers)
        self.number = number
        self.wanted = None
        self.goal = 0
        self.most = 1
        self.found = []
        self.pulling = None

    def look_for(self, wanted, goal, most):
        """Look for the event with a number if wanted is None, or for a read of a source, or the note of a node."""
        self.wanted = wanted
        self.goal = goal
        self.most = most

    def is_full(self):
        """Tell whether all events have been found."""
        return len(self.found) >= self.most

    def happen(self, event, subject):
        """Count an event, and put it down if it is one of those that are looked for."""
        if self.found or self.is_goal(subject):
            self.found.append((self.number, event))
        self.number += 1

    def is_goal(self, subject):
        """Tell whether the event that happens now, to a node, is the first one that is looked for."""
        if self.wanted is None:
            return self.number >= self.goal
        return subject == self.wanted and self.level(self.counts) > self.goal

    def level(self, counts):
        """Return how much has happened of what is looked for if nodes have been pulled so often."""
        if self.wanted is None:
            return self.number + self.events_between(counts)
        if self.plan.kinds[self.wanted] == "closing":
            return 1 if counts[self.wanted] > self.plan.note_pull(self.wanted) else 0
        return self.reads(self.wanted, counts)

    def reads(self, source, counts):
        """Return how many results of a source have been read if nodes have been pulled so often."""
        return self.plan.tapes[source].used(0, counts[source])

    def events_between(self, counts):
        """Return how many events there are until nodes have been pulled so often."""
        read = [name for name in self.moved(counts) if self.is_source(name)]
        reads = sum([self.reads(name, counts) - self.reads(name, self.counts) for name in read])
        return len(self.fresh_writers(counts)) + reads

    def moved(self, counts):
        """Return the names of the nodes that have been pulled more often then than now."""
        return [name for name in counts if counts[name] != self.counts[name]]

    def is_source(self, name):
        """Tell whether a node is a source."""
        return self.plan.kinds[name] in SOURCES

    def fresh_writers(self, counts):
        """Return the closing nodes that write their notes until nodes have been pulled so often."""
        found = []
        for name in self.moved(counts):
            if self.plan.kinds[name] == "closing" and name not in self.writers:
                pull = self.plan.note_pull(name)
                if pull is not None and counts[name] > pull:
                    found.append(name)
        return found

    def close(self, outlet, writers):
        """Close an outlet, behind which these closing nodes have written their notes."""
        self.happen(("closed", outlet), outlet)
        for name in writers:
            if name not in self.writers and not self.is_full():
                self.write(name)

    def write(self, name):
        """Write the note of a closing node."""
        self.writers.append(name)
        self.happen(("note", self.plan.parameters[name][0]), name)

    def pull_outlet(self, outlet):
        """Pull an outlet, unless all events are found within the pull."""
        self.pulling = outlet
        pull = self.counts[outlet]
        self.pull(outlet)
        if not self.is_full():
            self.give(outlet, self.plan.tapes[outlet].result(pull))

    def give(self, outlet, result):
        """Give the result of a pull on an outlet."""
        self.pulling = None
        self.happen(("given", outlet, result), outlet)

    def pull(self, name):
        """Pull a node and all that it pulls, up to the last event that is looked for."""
        pull = self.counts[name]
        tape = self.plan.tapes[name]
        stretch = tape.stretch_of(pull)
        if self.is_source(name):
            self.counts[name] += 1
            if stretch.what != "end" or pull == stretch.start:
                self.happen(("read", name, tape.result(pull)), name)
            return
        if stretch.what != "end" or pull == stretch.start:
            for place, many in stretch.uses[(pull - stretch.start) % len(stretch.uses)]:
                self.pull_input(name, place, many)
        if self.is_full():
            return
        self.counts[name] += 1
        if self.plan.kinds[name] == "closing" and self.plan.note_pull(name) == pull:
            self.write(name)

    def pull_input(self, name, place, many):
        """Pull an input so many times, or without end."""
        lower = self.plan.inputs[name][place]
        left = many
        while left != 0 and not self.is_full():
            passed = 0
            if left is None or left > FEW:
                passed = self.quiet_pulls(name, place, self.answered(name, place, left))
            if passed > 0:
                self.jump(self.counts_ahead(name, place, passed))
            else:
                passed = 1
                if self.plan.kinds[lower] != "split" or self.port_counts[(name, place)] >= self.counts[lower]:
                    self.pull(lower)
                if self.is_full():
                    return
                self.port_counts[(name, place)] += 1
            left = None if left is None else left - passed

    def answered(self, name, place, many):
        """Return how many of so many pulls on an input are answered, None for no end of them."""
        lower = self.plan.inputs[name][place]
        never = self.plan.tapes[lower].stop("never")
        if never is None:
            return many
        done = self.port_counts[(name, place)] if self.plan.kinds[lower] == "split" else self.counts[lower]
        return least_of([many, never - done])

    def quiet_pulls(self, name, place, most):
        """Return how many pulls on an input can be passed at once, without an event that is looked for in them."""
        if most == 0 or not self.is_quiet(name, place, 1):
            return 0
        if most is not None and self.is_quiet(name, place, most):
            return most
        low = 1
        high = 2
        while (most is None or high <= most) and self.is_quiet(name, place, high):
            low = high
            high = high * 2
        if most is not None:
            high = min(high, most + 1)
        while high - low > 1:
            middle = (low + high) // 2
            if self.is_quiet(name, place, middle):
                low = middle
            else:
                high = middle
        return low

    def is_quiet(self, name, place, many):
        """Tell whether so many pulls on an input lead to no event that is looked for."""
        counts = self.counts_ahead(name, place, many)[0]
        if self.found:
            return self.events_between(counts) == 0
        return self.level(counts) <= self.goal

    def counts_ahead(self, name, place, many):
        """Return how often all nodes, and their ports, will have been pulled behind so many pulls on an input."""
        counts = dict(self.counts)
        ports = {(name, place): self.port_counts[(name, place)] + many}
        below = self.plan.below[self.plan.inputs[name][place]]
        for node in self.plan.nodes[::-1]:
            lower = node[0]
            if lower not in below:
                continue
            found = [ports[port] for port in self.plan.users[lower] if port in ports]
            pulls = max(found, default=0)
            if pulls > counts[lower]:
                counts[lower] = pulls
                for at, _ in enumerate(node[3]):
                    ports[(lower, at)] = self.plan.tapes[lower].used(at, counts[lower])
        return counts, ports

    def jump(self, behind):
        """Go on to where nodes and ports have been pulled so often."""
        counts, ports = behind
        self.number += self.events_between(counts)
        self.writers.extend(self.fresh_writers(counts))
        self.counts = counts
        self.port_counts.update(ports)
