"""A plain machine that does schedules one pull after another, and writes down all that happens."""

from drawing import unrolled
from plain import PlainMachine

SOURCES = ("count", "span", "ring", "row")


class Recorder(PlainMachine):

    def __init__(self, nodes, patience=600):
        super().__init__(nodes, patience)
        self.splits = [node[0] for node in nodes if node[1] == "split"]
        self.events = []
        self.sizes = {name: [] for name in self.splits}
        self.error_list = []
        self.note_places = []
        self.place = ((), 0)
        self.stop = None

    def answer(self, name):
        if self.nodes[name][1] in SOURCES and name not in self.ended_nodes:
            result = super().answer(name)
            self.events.append(("read", name, result))
            return result
        return super().answer(name)

    def note(self, name, word):
        if name not in self.noted:
            self.events.append(("note", word))
            self.note_places.append((word, *self.place))
        super().note(name, word)

    def do(self, steps):
        """Do the steps; return whether all pulls were answered."""
        for path, number, word, outlet in unrolled(steps):
            self.place = (path, number)
            if word == "close":
                self.events.append(("closed", outlet))
                self.close(outlet)
                continue
            result = self.pull(outlet)
            if result[0] == "never":
                self.stop = (path, number, result[1])
                return False
            self.events.append(("given", outlet, result))
            if result[0] == "error":
                self.error_list.append((outlet, result[1], path, number))
            for name in self.splits:
                self.sizes[name].append(self.buffer(name))
        return True


def done(net, steps, patience=600):
    """Return a recorder that has done the steps."""
    recorder = Recorder(net.node_list(), patience)
    recorder.do(steps)
    return recorder
