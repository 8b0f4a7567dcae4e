"""A plain machine: it pulls one by one, keeps what splits hold in lists, and knows nothing of rounds passed in one step."""

END = ("end",)


class Ended(Exception):
    """An input has given the end, or the node itself is to give it."""


class Failed(Exception):
    """An input has given an error."""


class Never(Exception):
    """A pull is never answered: a node has pulled its input more often than patience lets it."""


def passes(test, item):
    word = test[0]
    if word == "not":
        return not passes(test[1], item)
    return {"below": lambda: item < test[1], "from": lambda: item >= test[1], "mod": lambda: item % test[1] in test[2]}[word]()


def join(how, values):
    return {"first": values[0], "last": values[-1], "sum": sum(values)}[how]


class PlainMachine:

    def __init__(self, nodes, patience=2000):
        self.nodes = {node[0]: node for node in nodes}
        self.patience = patience
        self.uses = [(node[0], place, lower) for node in nodes for place, lower in enumerate(node[3])]
        self.outlets = [node[0] for node in nodes if node[0] not in [lower for _, _, lower in self.uses]]
        self.memory = {name: {} for name in self.nodes}
        self.ended_nodes = set()
        self.closed_nodes = set()
        self.closed_ports = set()
        self.note_list = []
        self.noted = set()
        self.read_counts = {name: 0 for name in self.nodes}
        self.held = {name: [] for name in self.nodes}
        self.split_ended = set()
        self.indexes = {(user, place): 0 for user, place, _ in self.uses}
        self.stuck_at = None
        self.log = []

    # What is asked from outside.

    def pull(self, outlet):
        try:
            return self.answer(outlet)
        except Never as never:
            self.stuck_at = never.args[0]
            return ("never", self.stuck_at)

    def close(self, name):
        if name in self.closed_nodes:
            return
        self.closed_nodes.add(name)
        self.ended_nodes.add(name)
        _, kind, parameters, inputs = self.nodes[name]
        if kind == "closing":
            self.note(name, parameters[0])
        for place, lower in enumerate(inputs):
            if self.nodes[lower][1] != "split":
                self.close(lower)
                continue
            self.closed_ports.add((name, place))
            if all((user, at) in self.closed_ports for user, at, other in self.uses if other == lower):
                self.close(lower)

    def reads(self, name):
        return self.read_counts[name]

    def buffer(self, name):
        ports = [(user, place) for user, place, lower in self.uses if lower == name]
        open_ports = [self.indexes[port] for port in ports if port not in self.closed_ports]
        return len(self.held[name]) - min(open_ports) if open_ports else 0

    def notes(self):
        return list(self.note_list)

    def ended(self, name):
        return name in self.ended_nodes

    # How nodes are pulled.

    def note(self, name, word):
        if name not in self.noted:
            self.noted.add(name)
            self.note_list.append(word)

    def answer(self, name):
        if name in self.ended_nodes:
            return END
        _, kind, parameters, inputs = self.nodes[name]
        memory = self.memory[name]
        try:
            result = ("item", getattr(self, "pull_" + kind)(name, memory, inputs, *parameters))
        except Ended:
            result = END
        except Failed as failed:
            result = ("error", failed.args[0])
        if result == END or kind in ("dying", "closing") and result[0] == "error":
            self.ended_nodes.add(name)
            if kind == "closing":
                self.note(name, parameters[0])
        return result

    def result(self, name, place=0):
        lower = self.nodes[name][3][place]
        if self.nodes[lower][1] != "split":
            return self.answer(lower)
        index = self.indexes[name, place]
        if index == len(self.held[lower]):
            if lower in self.split_ended:
                return END
            result = self.result(lower)
            if result == END:
                self.split_ended.add(lower)
                return END
            self.held[lower].append(result)
        self.indexes[name, place] += 1
        return self.held[lower][index]

    def item(self, name, place=0):
        result = self.result(name, place)
        if result[0] == "end":
            raise Ended
        if result[0] == "error":
            raise Failed(result[1])
        return result[1]

    def counted(self, name):
        """Yield items of the only input, not more of them than patience lets."""
        for _ in range(self.patience):
            yield self.item(name)
        raise Never(name)

    def read(self, name, memory):
        """Return the number of a read of a source, from 0 on."""
        self.read_counts[name] += 1
        memory["at"] = memory.get("at", -1) + 1
        return memory["at"]

    def pull_count(self, name, memory, inputs, start, step):
        return start + self.read(name, memory) * step

    def pull_span(self, name, memory, inputs, start, step, many):
        at = self.read(name, memory)
        if at >= many:
            raise Ended
        return start + at * step

    def pull_ring(self, name, memory, inputs, items):
        return items[self.read(name, memory) % len(items)]

    def pull_row(self, name, memory, inputs, items):
        at = self.read(name, memory)
        if at >= len(items):
            raise Ended
        return items[at]

    def pull_scale(self, name, memory, inputs, a, b):
        return a * self.item(name) + b

    def pull_table(self, name, memory, inputs, items):
        return items[self.item(name) % len(items)]

    def pull_keep(self, name, memory, inputs, test):
        for item in self.counted(name):
            if passes(test, item):
                return item

    def pull_until(self, name, memory, inputs, test):
        item = self.item(name)
        if not passes(test, item):
            raise Ended
        return item

    def pull_after(self, name, memory, inputs, test):
        for item in self.counted(name):
            if memory.get("begun") or not passes(test, item):
                memory["begun"] = True
                return item

    def pull_take(self, name, memory, inputs, n):
        if memory.get("given", 0) == n:
            raise Ended
        item = self.item(name)
        memory["given"] = memory.get("given", 0) + 1
        return item

    def pull_drop(self, name, memory, inputs, n):
        while memory.get("lost", 0) < n:
            self.item(name)
            memory["lost"] = memory.get("lost", 0) + 1
        return self.item(name)

    def pull_step(self, name, memory, inputs, n):
        while memory.get("lost", n - 1) < n - 1:
            self.item(name)
            memory["lost"] += 1
        item = self.item(name)
        memory["lost"] = 0
        return item

    def pull_batch(self, name, memory, inputs, n, how, rest):
        if memory.get("over"):
            raise Ended
        held = memory.setdefault("held", [])
        while len(held) < n:
            try:
                held.append(self.item(name))
            except Ended:
                memory["over"] = True
                if not held or rest == "lose":
                    raise
                break
        memory["held"] = []
        return len(held) if how == "many" else join(how, held)

    def pull_pairs(self, name, memory, inputs):
        if "last" not in memory:
            memory["last"] = self.item(name)
        item = self.item(name)
        before, memory["last"] = memory["last"], item
        return item - before

    def pull_heads(self, name, memory, inputs):
        for item in self.counted(name):
            if item != memory.get("last"):
                memory["last"] = item
                return item

    def pull_lengths(self, name, memory, inputs):
        if memory.get("over"):
            raise Ended
        run = memory.setdefault("run", [])
        try:
            for item in self.counted(name):
                if run and item != run[-1]:
                    memory["run"] = [item]
                    return len(run)
                run.append(item)
        except Ended:
            memory["over"] = True
            if not run:
                raise
            return len(run)

    def pull_stutter(self, name, memory, inputs, n):
        if memory.get("left", 0) == 0:
            memory["item"] = self.item(name)
            memory["left"] = n
        memory["left"] -= 1
        return memory["item"]

    def pull_ahead(self, name, memory, inputs, n):
        held = memory.setdefault("held", [])
        while len(held) < n + 1 and END not in held:
            held.append(self.result(name))
        if held[0] == END:
            raise Ended
        result = held.pop(0)
        if result[0] == "error":
            raise Failed(result[1])
        return result[1]

    def pull_fault(self, name, memory, inputs, n, word):
        memory["pulls"] = memory.get("pulls", -1) + 1
        if memory["pulls"] == n:
            raise Failed(word)
        return self.item(name)

    def pull_dying(self, name, memory, inputs):
        return self.item(name)

    def pull_closing(self, name, memory, inputs, note):
        return self.item(name)

    def pull_calm(self, name, memory, inputs, word):
        while True:
            try:
                return self.item(name)
            except Failed:
                if word == "stop":
                    raise Ended from None

    def pull_chain(self, name, memory, inputs):
        while memory.setdefault("at", 0) < len(inputs):
            try:
                return self.item(name, memory["at"])
            except Ended:
                memory["at"] += 1
        raise Ended

    def pull_zip(self, name, memory, inputs, how):
        return join(how, [self.item(name, place) for place in range(len(inputs))])

    def pull_longest(self, name, memory, inputs, fill, how):
        over = memory.setdefault("over", set())
        values = []
        for place in range(len(inputs)):
            value = fill
            if place not in over:
                try:
                    value = self.item(name, place)
                except Ended:
                    over.add(place)
            values.append(value)
        if len(over) == len(inputs):
            raise Ended
        return join(how, values)

    def pull_turns(self, name, memory, inputs):
        order = memory.setdefault("order", list(range(len(inputs))))
        while order:
            place = order.pop(0)
            result = self.result(name, place)
            if result == END:
                continue
            order.append(place)
            if result[0] == "error":
                raise Failed(result[1])
            return result[1]
        raise Ended

    def pull_choose(self, name, memory, inputs):
        item = self.item(name, 0)
        return self.item(name, 1 + item % (len(inputs) - 1))
