"""Sizes that are counted pull by pull, and rounds within rounds whose sizes are told by formulas.

In all nets of this file "x" reads from the split "s", the split "t" from "x", some outlets from "t", and "m" and perhaps other
outlets from "s". How many results a node has read behind so many pulls is told by its kind alone.
"""

from drawing import unrolled

from pullworks.nets import Net

READS = {
    "scale": lambda many, by: many,
    "step": lambda many, by: 1 + (many - 1) * by if many else 0,
    "drop": lambda many, by: many + by if many else 0,
    "ahead": lambda many, by: many + by if many else 0,
    "stutter": lambda many, by: -(-many // by),
}

PLAIN = ("scale", (1, 0))


def leading_net(upper, beside=None, middle=PLAIN):
    """Return the net; upper and beside tell the kinds and parameters of the outlets over "t" and over "s"."""
    nodes = [("a", "count", (0, 1), []), ("s", "split", (), ["a"]), ("x", *middle, ["s"]), ("t", "split", (), ["x"])]
    nodes.extend((name, *kind, ["t"]) for name, kind in upper.items())
    nodes.extend((name, *kind, ["s"]) for name, kind in (beside or {"m": PLAIN}).items())
    return Net(nodes)


def counted_sizes(net, steps, split):
    """Return the size of "s" or "t" behind each pull."""
    tells = {name: (READS[kind], parameters[0]) for name, kind, parameters, _ in net.node_list() if kind in READS}
    upper = [name for name, _, _, inputs in net.node_list() if inputs == ["t"]]
    beside = [name for name, _, _, inputs in net.node_list() if inputs == ["s"] and name != "x"]
    pulls = dict.fromkeys(upper + beside, 0)
    given = dict(pulls)
    found = []
    for _, _, _, outlet in unrolled(steps):
        pulls[outlet] += 1
        tell, by = tells[outlet]
        given[outlet] = tell(pulls[outlet], by)
        levels = [given[name] for name in upper]
        if split == "s":
            tell, by = tells["x"]
            levels = [tell(max(levels), by), *[given[name] for name in beside]]
        found.append(max(levels) - min(levels))
    return found


class Rounds:
    """Rounds within rounds, in which "m" leads each of some outlets over "t" by a number that a formula tells.

    Behind i rounds and t further inner ones "m" leads an outlet with the lead (a, b, c) by `height` + a + b * i + c * t, and
    the size of "s" is the least of these. In all rounds, and ahead of them, the outlets are pulled first and then "m", so that
    no size between is greater, and `height` is so much that "m" is always ahead. An outlet is pulled so many times for one
    read as `times` tells. Each round begins with lists of `even` numbers of reads, each by all outlets, that change no lead.
    """

    def __init__(self, leads, rounds, inner, times=None, even=()):
        self.leads = list(leads.values())
        self.rounds, self.inner, self.times = rounds, inner, times or {}
        few = max(1, *[c for _, _, c in self.leads])
        large = inner * max(few - c for _, _, c in [*self.leads, (0, 0, 0)]) + max(abs(b) for _, b, _ in self.leads) + 1
        starts = [a for a, _, _ in self.leads]
        corners = [a + b * i + c * t for a, b, c in self.leads for i in (0, rounds) for t in (0, inner)]
        self.height = max(large, *even, 0) + max(starts) - min(starts) - min(0, *corners)
        self.even = [("repeat", 1, self.pulls(dict.fromkeys([*leads, "m"], many)) * (20 // (len(leads) + 1))) for many in even]
        self.start = {name: max(starts) - a for name, (a, _, _) in leads.items()}
        self.few = {name: few - c for name, (_, _, c) in leads.items()}
        self.rest = {name: large - inner * self.few[name] - b for name, (_, b, _) in leads.items()}
        self.start["m"], self.few["m"], self.rest["m"] = self.height + max(starts), few, large - inner * few

    def pulls(self, each):
        """Return the pulls for so many reads of each outlet."""
        return [("pull", name, many * self.times.get(name, 1)) for name, many in each.items() if many > 0]

    def body(self):
        """Return the steps of a round."""
        return [*self.even, ("repeat", self.inner, self.pulls(self.few)), *self.pulls(self.rest)]

    def steps(self):
        return [*self.pulls(self.start), ("repeat", self.rounds, self.body())]

    def number(self, i, t):
        """Return the number of the last pull of so many rounds and inner ones."""
        ahead, few, rest = [sum(step[2] for step in self.pulls(each)) for each in (self.start, self.few, self.rest)]
        even = sum(step[2] for part in self.even for step in part[2])
        return ahead + i * (even + self.inner * few + rest) + (even + t * few if t > 0 else 0) - 1

    def size(self, i, t):
        """Return the size behind it."""
        return self.height + min(a + b * i + c * t for a, b, c in self.leads)

    def rows(self):
        """Yield all rows, or all columns if these are fewer: the first point, the step to the next, the last one, and the lines."""
        if self.rounds <= self.inner:
            for i in range(self.rounds + 1):
                yield (i, 0), (0, 1), self.inner if i < self.rounds else 0, [(a + b * i, c) for a, b, c in self.leads]
        else:
            for t in range(self.inner + 1):
                yield (0, t), (1, 0), self.rounds - (t > 0), [(a + c * t, b) for a, b, c in self.leads]

    def points(self, find):
        """Yield the points that are found in the rows."""
        for (i, t), (down, along), many, lines in self.rows():
            at = find(lines, many)
            if at is not None:
                yield i + down * at, t + along * at

    def greatest(self):
        """Return the greatest size, and the number of the first pull with it, by a formula for each row."""
        size, number = max((self.size(*point), -self.number(*point)) for point in self.points(peak_of))
        return size, -number

    def first_above(self, bound):
        """Return the number of the first pull with a greater size than a bound that is not below the height."""
        points = self.points(lambda lines, many: first_over(lines, many, bound + 1 - self.height))
        number, size = min([(self.number(*point), self.size(*point)) for point in points], default=(None, None))
        # The pulls on "m" up to there come one after another.
        return None if size is None else number - (size - bound - 1)


def peak_of(lines, many):
    """Return the first number up to another one for which the least of some lines (value, growth) is greatest."""
    turns = [0, many]
    for value, growth in lines:
        for other, faster in lines:
            if faster > growth:
                turns.extend(((value - other) // (faster - growth), -((other - value) // (faster - growth))))
    turns = [turn for turn in turns if 0 <= turn <= many]
    return -max((min(value + growth * turn for value, growth in lines), -turn) for turn in turns)[1]


def first_over(lines, many, level):
    """Return the first number up to another one for which no line is below a level, None if there is none."""
    low, high = 0, many
    for value, growth in lines:
        if growth > 0:
            low = max(low, -((value - level) // growth))
        elif growth < 0:
            high = min(high, (value - level) // -growth)
        elif value < level:
            return None
    return low if low <= high else None
