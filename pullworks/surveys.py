"""Surveys of a schedule: how great a split becomes, and behind which pull.

Rounds in which all ports stay on the lines of their courses are a field, which is looked at all at once. Where a port
comes to other lines, the round in which it does so is gone through, and so are inner rounds.
"""

from pullworks.fields import Field, first_lead, greatest_lead
from pullworks.states import State

# So few pulls are done one by one sooner than all at once.
MOST_SINGLE = 20


class Survey:
    """A schedule that is gone through: pulls up to here, and the greatest size so far above a least one.

    A survey that looks for the first size above the least one is over when it has found it.
    """

    def __init__(self, gauge, best, only_first):
        self.gauge = gauge
        self.best = best
        self.only_first = only_first
        self.number = None
        self.over = False
        self.gone = 0
        self.counts = {outlet: 0 for outlet in gauge.plan.outlets}
        self.levels = {outlet: [0] * len(gauge.ports) for outlet in gauge.courses}
        self.given = [0] * len(gauge.ports)
        self.shut = State(gauge.plan)
        self.open_ports = list(range(len(gauge.ports)))

    def looking_on(self):
        """Return a survey that goes on from here, and looks for the greatest size."""
        other = Survey(self.gauge, self.best, False)
        other.gone = self.gone
        other.counts = dict(self.counts)
        other.levels = dict(self.levels)
        other.given = self.given
        other.shut = self.shut.copied()
        other.open_ports = self.open_ports
        return other

    def go_through(self, block):
        """Do all parts of a block."""
        for word, outlet, many, inner in block.parts:
            if self.over:
                return
            if word == "close":
                self.shut_outlet(outlet)
            elif word == "pull" and outlet in self.shut.closed:
                self.gone += many
            elif word == "pull" and many == 1:
                self.pull_once(outlet)
            else:
                self.go_rounds(many, inner)

    def shut_outlet(self, outlet):
        """Close an outlet."""
        self.shut.close(outlet)
        closed = self.shut.closed_nodes()
        self.open_ports = [at for at, (user, _) in enumerate(self.gauge.ports) if user not in closed]

    def pull_once(self, outlet):
        """Pull an outlet that is not closed, unless this pull is never answered."""
        if self.gauge.plan.tapes[outlet].stop("never") == self.counts[outlet]:
            self.over = True
            return
        self.move(outlet, 1)
        self.gone += 1
        size = self.size_now()
        if size > self.best:
            self.best = size
            self.number = self.gone - 1
            self.over = self.only_first

    def move(self, outlet, pulls):
        """Count so many pulls on an outlet."""
        self.counts[outlet] += pulls
        if outlet in self.levels:
            self.lift(outlet, self.gauge.heights(outlet, self.counts[outlet]))

    def lift(self, outlet, levels):
        """Take what the ports have been given by an outlet by now."""
        self.levels[outlet] = levels
        self.given = [max(given, level) for given, level in zip(self.given, levels)]

    def size_now(self):
        """Return the size of the split."""
        return max(self.given) - self.lowest() if self.open_ports else 0

    def lowest(self):
        """Return what all ports that are not closed have passed."""
        return min([self.given[at] for at in self.open_ports])

    def go_rounds(self, many, block):
        """Do so many rounds of a block."""
        left = many
        while left > 0 and not self.over:
            taken = 0 if self.closes_more(block) else self.clean_rounds(block, left)
            ends = self.levels_behind(taken, block)
            if taken == 0:
                taken = 1
                self.go_through(block)
            elif self.is_low(ends):
                self.skip(taken, block, ends)
            else:
                self.go_clean(taken, block, ends)
            left -= taken

    def closes_more(self, block):
        """Tell whether a block closes an outlet that is not closed yet."""
        return any([outlet not in self.shut.closed for outlet in block.shut])

    def growing(self, block):
        """Return for each outlet that a block pulls and that is not closed how often it is pulled in a round."""
        closed = self.shut.closed
        return [(outlet, each) for outlet, each in block.pulled if outlet not in closed]

    def clean_rounds(self, block, many):
        """Return for how many of so many rounds all ports stay on the lines of their courses."""
        found = many
        for outlet, each in self.growing(block):
            here = self.counts[outlet]
            never = self.gauge.plan.tapes[outlet].stop("never")
            bounds = [] if never is None else [never]
            for course in self.gauge.courses.get(outlet, []):
                if course is not None:
                    stretch = course.stretch_of(here)
                    bounds.extend([] if stretch.many is None else [stretch.start + stretch.many - 1])
            for bound in bounds:
                found = min(found, (bound - here) // each)
        return found

    def is_low(self, ends):
        """Tell whether no size can be above the best one up to where outlets have these levels."""
        if not self.open_ports:
            return True
        most = max(self.given)
        for levels in ends.values():
            most = max(most, max(levels))
        return most - self.lowest() <= self.best

    def levels_behind(self, many, block):
        """Return the levels behind so many rounds of the outlets that are pulled in them."""
        found = {}
        for outlet, each in self.growing(block):
            if outlet in self.levels:
                found[outlet] = self.gauge.heights(outlet, self.counts[outlet] + each * many)
        return found

    def skip(self, many, block, ends):
        """Count so many clean rounds, behind which outlets have these levels, without a look at them."""
        for outlet, levels in ends.items():
            self.lift(outlet, levels)
        for outlet, each in self.growing(block):
            self.counts[outlet] += each * many
        self.gone += many * block.each

    def go_clean(self, many, block, ends):
        """Do so many clean rounds, behind which outlets have these levels."""
        if many * block.each <= MOST_SINGLE:
            for _ in range(many):
                self.go_through(block)
            return
        patches = Field(self, many, block, ends).patches(self.best)
        if self.only_first:
            self.number = first_lead(patches, self.best + 1)
            self.over = self.number is not None
        else:
            best = greatest_lead(patches, self.best)
            if best > self.best:
                self.best = best
                self.number = first_lead(patches, best)
        self.skip(many, block, ends)
