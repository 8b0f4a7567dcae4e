"""Surveys of a schedule: how great a split becomes, and behind which pull.

Rounds in which all ports stay on the lines of their courses come back to these lines after a period. As long as no
outlet overtakes another one at a port that both pull, the size at each point of a round grows from period to period by
numbers that never fall. So it is greatest in the first or in the last period, and only these are looked at.
"""

from pullworks.gauges import common_rounds, rounds_to_come_back
from pullworks.lines import least_of, sign_turn
from pullworks.states import State

MOST_ROUNDS = 200


class Survey:
    """A schedule that is gone through: pulls up to here, and the greatest size so far above a least one.

    A survey that looks for the first size above the least one is over when it has found it.
    """

    def __init__(self, gauge, best, only_first):
        self.gauge = gauge
        self.best = best
        self.only_first = only_first
        self.number = None
        self.over = False
        self.gone = 0
        self.counts = {outlet: 0 for outlet in gauge.plan.outlets}
        self.levels = {outlet: [0] * len(gauge.ports) for outlet in gauge.courses}
        self.given = [0] * len(gauge.ports)
        self.shut = State(gauge.plan)
        self.open_ports = list(range(len(gauge.ports)))

    def looking_on(self):
        """Return a survey that goes on from here, and looks for the greatest size."""
        other = Survey(self.gauge, self.best, False)
        other.gone = self.gone
        other.counts = dict(self.counts)
        other.levels = dict(self.levels)
        other.given = self.given
        other.shut = self.shut.copied()
        other.open_ports = self.open_ports
        return other

    def go_through(self, block):
        """Do all parts of a block."""
        for word, outlet, many, inner in block.parts:
            if self.over:
                return
            if word == "close":
                self.shut_outlet(outlet)
            elif word == "pull" and outlet in self.shut.closed:
                self.gone += many
            elif word == "pull" and many == 1:
                self.pull_once(outlet)
            else:
                self.go_rounds(many, inner)

    def shut_outlet(self, outlet):
        """Close an outlet."""
        self.shut.close(outlet)
        closed = self.shut.closed_nodes()
        self.open_ports = [at for at, (user, _) in enumerate(self.gauge.ports) if user not in closed]

    def pull_once(self, outlet):
        """Pull an outlet that is not closed, unless this pull is never answered."""
        if self.gauge.plan.tapes[outlet].stop("never") == self.counts[outlet]:
            self.over = True
            return
        self.move(outlet, 1)
        self.gone += 1
        size = self.size_now()
        if size > self.best:
            self.best = size
            self.number = self.gone - 1
            self.over = self.only_first

    def move(self, outlet, pulls):
        """Count so many pulls on an outlet."""
        self.counts[outlet] += pulls
        if outlet in self.levels:
            self.lift(outlet, self.gauge.heights(outlet, self.counts[outlet]))

    def lift(self, outlet, levels):
        """Take what the ports have been given by an outlet by now."""
        self.levels[outlet] = levels
        self.given = [max(given, level) for given, level in zip(self.given, levels)]

    def size_now(self):
        """Return the size of the split."""
        return max(self.given) - self.lowest() if self.open_ports else 0

    def lowest(self):
        """Return what all ports that are not closed have passed."""
        return min([self.given[at] for at in self.open_ports])

    def go_rounds(self, many, block):
        """Do so many rounds of a block."""
        left = many
        while left > 0 and not self.over:
            taken = 0 if self.closes_more(block) else self.clean_rounds(block, left)
            if taken == 0:
                taken = 1
                self.go_through(block)
            elif self.is_low(taken, block):
                self.skip(taken, block)
            else:
                taken = self.go_clean(taken, block)
            left -= taken

    def closes_more(self, block):
        """Tell whether a block closes an outlet that is not closed yet."""
        return any([outlet not in self.shut.closed for outlet in block.shut])

    def growing(self, block):
        """Return for each outlet that a block pulls and that is not closed how often it is pulled in a round."""
        closed = self.shut.closed
        return [(outlet, each) for outlet, each in block.pulled if outlet not in closed]

    def clean_rounds(self, block, many):
        """Return for how many of so many rounds all ports stay on the lines of their courses."""
        found = many
        for outlet, each in self.growing(block):
            here = self.counts[outlet]
            never = self.gauge.plan.tapes[outlet].stop("never")
            bounds = [] if never is None else [never]
            for course in self.gauge.courses.get(outlet, []):
                if course is not None:
                    stretch = course.stretch_of(here)
                    bounds.extend([] if stretch.many is None else [stretch.start + stretch.many - 1])
            for bound in bounds:
                found = min(found, (bound - here) // each)
        return found

    def is_low(self, many, block):
        """Tell whether no size within so many clean rounds can be above the best one."""
        if not self.open_ports:
            return True
        most = max(self.given)
        for levels in self.levels_behind(many, block).values():
            most = max(most, max(levels))
        return most - self.lowest() <= self.best

    def levels_behind(self, many, block):
        """Return the levels behind so many rounds of the outlets that are pulled in them."""
        found = {}
        for outlet, each in self.growing(block):
            if outlet in self.levels:
                found[outlet] = self.gauge.heights(outlet, self.counts[outlet] + each * many)
        return found

    def skip(self, many, block):
        """Count so many clean rounds without a look at them."""
        for outlet, levels in self.levels_behind(many, block).items():
            self.lift(outlet, levels)
        for outlet, each in self.growing(block):
            self.counts[outlet] += each * many
        self.gone += many * block.each

    def go_clean(self, many, block):
        """Do so many clean rounds, or fewer; return how many."""
        period = self.period(block)
        periods = self.in_order(many // period, period, block)
        if periods < 3:
            taken = min(many, max(periods, 1) * period)
            self.repeat_all(taken, block)
            return taken
        self.repeat_all(period, block)
        if self.over:
            return period
        ahead = periods - 2
        if self.only_first:
            ahead = self.periods_ahead(ahead, period, block)
        self.skip(ahead * period, block)
        if ahead < periods - 1:
            self.repeat_all(period, block)
        return periods * period

    def repeat_all(self, many, block):
        """Do so many rounds one by one."""
        for _ in range(many):
            if self.over:
                return
            self.go_through(block)

    def period(self, block):
        """Return in how many clean rounds all ports come back to their lines."""
        sizes = []
        for outlet, each in self.growing(block):
            for course in self.gauge.courses.get(outlet, []):
                if course is not None:
                    stretch = course.stretch_of(self.counts[outlet])
                    sizes.append(rounds_to_come_back(len(stretch.lines), each))
        return common_rounds(sizes)

    def in_order(self, periods, period, block):
        """Return for how many of so many periods no outlet overtakes another one at a port that both pull."""
        if periods < 3:
            return periods
        ends = self.levels_behind(period, block)
        found = periods
        for one, _ in self.growing(block):
            for other, at in self.gauge.rivals.get(one, []):
                upper = (self.levels[one][at], ends[one][at])
                lower = (self.levels[other][at], ends.get(other, self.levels[other])[at])
                # Uneven lines are found in few rounds; if there are more of them, they are not looked at one by one.
                even = periods * period > MOST_ROUNDS or self.is_even(one, at) and self.is_even(other, at)
                found = least_of([found, ordered_periods(upper, lower, period, even)])
        return found

    def is_even(self, outlet, at):
        """Tell whether a port now grows by the same number at all points of a round."""
        return self.gauge.is_even(outlet, at, self.counts[outlet])

    def periods_ahead(self, last, period, block):
        """Return how many of so many periods, and a last one, are ahead of the first one with a size above the best."""
        low = -1
        high = last
        worth = self.peak(last, period, block)
        if worth is None:
            return last + 1
        while high - low > 1:
            lower = self.peak(high - 1, period, block)
            if lower is None:
                return high
            # The greatest sizes of periods lie on or above the line through these two.
            guess = high - 1 - (lower - self.best - 1) // max(worth - lower, 1)
            guess = guess if guess > low else (low + high) // 2
            found = self.peak(guess, period, block)
            if found is None:
                low = guess
            else:
                high, worth = guess, found
        return high

    def peak(self, periods, period, block):
        """Return the greatest size above the best in the period behind so many ones, None if there is none."""
        other = self.looking_on()
        other.skip(periods * period, block)
        other.repeat_all(period, block)
        return None if other.number is None else other.best


def ordered_periods(one, other, period, even):
    """Return for how many periods, one at least, one of two levels stays above the other; None for no end of them.

    Each is a pair: the level now, and a period later. If both grow evenly and alike, their order at each point of a
    round never changes.
    """
    growth = (one[1] - one[0]) - (other[1] - other[0])
    above = one[0] - other[1]
    below = other[0] - one[1]
    if growth == 0:
        return None if even or above >= 0 or below >= 0 else 1
    if above >= 0:
        return sign_turn(above, growth)
    if below >= 0:
        return sign_turn(below, -growth)
    turn = sign_turn(above, growth) if growth > 0 else sign_turn(below, -growth)
    if turn * period <= MOST_ROUNDS:
        return 1
    middle = sign_turn(one[0] - other[0], growth)
    return turn if middle is None or middle < 1 else min(turn, middle)
