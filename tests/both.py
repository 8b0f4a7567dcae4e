"""A machine and the plain machine of the tests, which are asked the same and must answer the same."""

import copy

from plain import PlainMachine

from pullworks.machines import Machine

SOURCES = ("count", "span", "ring", "row")


class Both:

    def __init__(self, test, net, patience=2000):
        self.test = test
        self.nodes = net.node_list()
        self.machine = Machine(net)
        self.plain = PlainMachine(self.nodes, patience)
        self.outlets = self.plain.outlets
        self.calls = []

    def pull(self, outlet):
        self.calls.append(("pull", outlet))
        self.same(self.machine.pull(outlet), self.plain.pull(outlet))

    def pull_times(self, outlet, n):
        self.calls.append(("pull_times", outlet, n))
        wanted = [0, 0, None]
        for _ in range(n):
            wanted[2] = self.plain.pull(outlet)
            if wanted[2][0] == "never":
                break
            wanted[0] += wanted[2][0] == "item"
            wanted[1] += wanted[2][0] == "error"
        self.same(self.machine.pull_times(outlet, n), tuple(wanted))

    def close(self, outlet):
        self.calls.append(("close", outlet))
        self.plain.close(outlet)
        self.same(self.machine.close(outlet), None)

    def copy(self):
        """Go on with a copy."""
        self.calls.append(("copy",))
        self.machine = self.machine.copy()

    def twin(self):
        """Return a copy of both that goes on apart."""
        twin = copy.copy(self)
        twin.machine, twin.plain, twin.calls = self.machine.copy(), copy.deepcopy(self.plain), list(self.calls)
        return twin

    def is_stuck(self):
        return self.plain.stuck_at is not None

    def compare(self):
        """Compare all that can be asked."""
        self.same(self.machine.stuck(), self.plain.stuck_at)
        self.same(self.machine.notes(), self.plain.notes())
        for outlet in self.outlets:
            self.same(self.machine.ended(outlet), self.plain.ended(outlet))
        if self.is_stuck():
            return
        for name, kind, _, _ in self.nodes:
            if kind in SOURCES:
                self.same(self.machine.reads(name), self.plain.reads(name))
            if kind == "split":
                self.same(self.machine.buffer(name), self.plain.buffer(name))

    def same(self, found, wanted):
        if found != wanted:
            self.test.fail(f"{found} instead of {wanted}: {self.nodes}, {self.calls}")

    def pull_all(self, many):
        """Pull the outlets in turn, so many pulls in all, and compare behind each pull."""
        for at in range(many):
            self.pull(self.outlets[at % len(self.outlets)])
            self.compare()
            if self.is_stuck():
                return
