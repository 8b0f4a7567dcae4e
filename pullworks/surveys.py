"""Surveys of a schedule: how great a split becomes, and behind which pull.

Rounds in which all ports stay on the lines of their courses come back to these lines after a period. As long as no
outlet overtakes another one at a port that both pull, the size at each point of a round grows from period to period by
numbers that never fall. So it is greatest in the first or in the last period, and only these are looked at.
"""

from pullworks.gauges import common_rounds, corners, rounds_to_come_back
from pullworks.lines import least_of, sign_turn
from pullworks.states import State

# So many mixed rounds are looked at one by one; of more of them, about so many at both ends of those between corners.
MOST_ROUNDS = 60
MOST_MIXED = 12
MOST_CORNERS = 100


class Survey:
    """A schedule that is gone through: pulls up to here, and the greatest size so far above a least one.

    A survey that looks for the first size above the least one is over when it has found it.
    """

    def __init__(self, gauge, best, only_first):
        self.gauge = gauge
        self.best = best
        self.only_first = only_first
        self.number = None
        self.over = False
        self.gone = 0
        self.counts = {outlet: 0 for outlet in gauge.plan.outlets}
        self.levels = {outlet: [0] * len(gauge.ports) for outlet in gauge.courses}
        self.given = [0] * len(gauge.ports)
        self.shut = State(gauge.plan)
        self.open_ports = list(range(len(gauge.ports)))

    def looking_on(self):
        """Return a survey that goes on from here, and looks for the greatest size."""
        other = Survey(self.gauge, self.best, False)
        other.gone = self.gone
        other.counts = dict(self.counts)
        other.levels = dict(self.levels)
        other.given = self.given
        other.shut = self.shut.copied()
        other.open_ports = self.open_ports
        return other

    def go_through(self, block):
        """Do all parts of a block."""
        for word, outlet, many, inner in block.parts:
            if self.over:
                return
            if word == "close":
                self.shut_outlet(outlet)
            elif word == "pull" and outlet in self.shut.closed:
                self.gone += many
            elif word == "pull" and many == 1:
                self.pull_once(outlet)
            else:
                self.go_rounds(many, inner)

    def shut_outlet(self, outlet):
        """Close an outlet."""
        self.shut.close(outlet)
        closed = self.shut.closed_nodes()
        self.open_ports = [at for at, (user, _) in enumerate(self.gauge.ports) if user not in closed]

    def pull_once(self, outlet):
        """Pull an outlet that is not closed, unless this pull is never answered."""
        if self.gauge.plan.tapes[outlet].stop("never") == self.counts[outlet]:
            self.over = True
            return
        self.move(outlet, 1)
        self.gone += 1
        size = self.size_now()
        if size > self.best:
            self.best = size
            self.number = self.gone - 1
            self.over = self.only_first

    def move(self, outlet, pulls):
        """Count so many pulls on an outlet."""
        self.counts[outlet] += pulls
        if outlet in self.levels:
            self.lift(outlet, self.gauge.heights(outlet, self.counts[outlet]))

    def lift(self, outlet, levels):
        """Take what the ports have been given by an outlet by now."""
        self.levels[outlet] = levels
        self.given = [max(given, level) for given, level in zip(self.given, levels)]

    def size_now(self):
        """Return the size of the split."""
        return max(self.given) - self.lowest() if self.open_ports else 0

    def lowest(self):
        """Return what all ports that are not closed have passed."""
        return min([self.given[at] for at in self.open_ports])

    def go_rounds(self, many, block):
        """Do so many rounds of a block."""
        left = many
        while left > 0 and not self.over:
            taken = 0 if self.closes_more(block) else self.clean_rounds(block, left)
            ends = self.levels_behind(taken, block)
            if taken == 0:
                taken = 1
                self.go_through(block)
            elif self.is_low(ends):
                self.skip(taken, block, ends)
            else:
                taken = self.go_clean(taken, block)
            left -= taken

    def closes_more(self, block):
        """Tell whether a block closes an outlet that is not closed yet."""
        return any([outlet not in self.shut.closed for outlet in block.shut])

    def growing(self, block):
        """Return for each outlet that a block pulls and that is not closed how often it is pulled in a round."""
        closed = self.shut.closed
        return [(outlet, each) for outlet, each in block.pulled if outlet not in closed]

    def clean_rounds(self, block, many):
        """Return for how many of so many rounds all ports stay on the lines of their courses."""
        found = many
        for outlet, each in self.growing(block):
            here = self.counts[outlet]
            never = self.gauge.plan.tapes[outlet].stop("never")
            bounds = [] if never is None else [never]
            for course in self.gauge.courses.get(outlet, []):
                if course is not None:
                    stretch = course.stretch_of(here)
                    bounds.extend([] if stretch.many is None else [stretch.start + stretch.many - 1])
            for bound in bounds:
                found = min(found, (bound - here) // each)
        return found

    def is_low(self, ends):
        """Tell whether no size can be above the best one up to where outlets have these levels."""
        if not self.open_ports:
            return True
        most = max(self.given)
        for levels in ends.values():
            most = max(most, max(levels))
        return most - self.lowest() <= self.best

    def levels_behind(self, many, block):
        """Return the levels behind so many rounds of the outlets that are pulled in them."""
        found = {}
        for outlet, each in self.growing(block):
            if outlet in self.levels:
                found[outlet] = self.gauge.heights(outlet, self.counts[outlet] + each * many)
        return found

    def skip(self, many, block, ends):
        """Count so many clean rounds, behind which outlets have these levels, without a look at them."""
        for outlet, levels in ends.items():
            self.lift(outlet, levels)
        for outlet, each in self.growing(block):
            self.counts[outlet] += each * many
        self.gone += many * block.each

    def go_clean(self, many, block):
        """Do so many clean rounds, or fewer; return how many."""
        period = self.period(block)
        periods, mixed = self.in_order(many // period, period, block)
        if mixed:
            wide = max(1, MOST_MIXED // period)
            period, periods = period * wide, periods // wide
        if periods < 3:
            taken = min(many, max(periods, 1) * period)
            self.repeat_all(taken, block)
            return taken
        self.repeat_all(period, block)
        if self.over:
            return period
        ahead = periods - 2
        if self.only_first:
            ahead = self.periods_ahead(ahead, period, block)
        self.skip(ahead * period, block, self.levels_behind(ahead * period, block))
        if ahead < periods - 1:
            self.repeat_all(period, block)
        return periods * period

    def repeat_all(self, many, block):
        """Do so many rounds one by one."""
        for _ in range(many):
            if self.over:
                return
            self.go_through(block)

    def period(self, block):
        """Return in how many clean rounds all ports come back to their lines."""
        sizes = []
        for outlet, each in self.growing(block):
            for course in self.gauge.courses.get(outlet, []):
                if course is not None:
                    stretch = course.stretch_of(self.counts[outlet])
                    sizes.append(rounds_to_come_back(len(stretch.lines), each))
        return common_rounds(sizes)

    def in_order(self, periods, period, block):
        """Return for how many of so many periods no outlet overtakes another one at a port that both pull.

        If outlets overtake each other in each of very many rounds, they are mixed: then the periods are those up to the
        first one in which another outlet leads at one of the corners of a round. In so many rounds the size is greatest
        in the first or the last ones, but for what is lost by rounding, so more of them are looked at.
        """
        if periods < 3:
            return periods, False
        ends = self.levels_behind(period, block)
        found = periods
        mixed = False
        for one, _ in self.growing(block):
            for other, at in self.gauge.rivals.get(one, []):
                upper = (self.levels[one][at], ends[one][at])
                lower = (self.levels[other][at], ends.get(other, self.levels[other])[at])
                ordered = ordered_periods(upper, lower)
                if ordered == 0 and grow_alike(upper, lower) and self.is_even(one, at) and self.is_even(other, at):
                    continue
                if ordered == 0:
                    left = least_of([periods, mixed_periods(upper, lower)])
                    if left * period <= MOST_ROUNDS:
                        return 1, False
                    mixed = True
                    ordered = least_of([left, self.cornered(one, other, at, period, block)])
                found = least_of([found, ordered])
        return found, mixed

    def is_even(self, outlet, at):
        """Tell whether a port now grows by the same number at all points of a round."""
        return self.gauge.is_even(outlet, at, self.counts[outlet])

    def cornered(self, one, other, at, period, block):
        """Return in how many periods the first outlet takes or loses the lead at a corner of a round, None for none."""
        found = None
        for corner in corners(block)[:MOST_CORNERS]:
            now = self.lead(one, other, at, corner, 0, block)
            turn = sign_turn(now, self.lead(one, other, at, corner, period, block) - now)
            if turn is not None and turn > 0:
                found = least_of([found, turn])
        return found

    def lead(self, one, other, at, corner, rounds, block):
        """Return by how much an outlet leads another one at a port, at a corner of a round so many rounds ahead."""
        found = []
        for outlet in (one, other):
            more = 0 if outlet in self.shut.closed else corner[outlet] + rounds * block.growth[outlet]
            found.append(self.gauge.courses[outlet][at].result(self.counts[outlet] + more)[1])
        return found[0] - found[1]

    def periods_ahead(self, last, period, block):
        """Return how many of so many periods, and a last one, are ahead of the first one with a size above the best."""
        low = -1
        high = last
        worth = self.peak(last, period, block)
        if worth is None:
            return last + 1
        while high - low > 1:
            lower = self.peak(high - 1, period, block)
            if lower is None:
                return high
            # The greatest sizes of periods lie on or above the line through these two.
            guess = high - 1 - (lower - self.best - 1) // max(worth - lower, 1)
            guess = guess if guess > low else (low + high) // 2
            found = self.peak(guess, period, block)
            if found is None:
                low = guess
            else:
                high, worth = guess, found
        return high

    def peak(self, periods, period, block):
        """Return the greatest size above the best in the period behind so many ones, None if there is none."""
        other = self.looking_on()
        other.skip(periods * period, block, other.levels_behind(periods * period, block))
        other.repeat_all(period, block)
        return None if other.number is None else other.best


def grow_alike(one, other):
    """Tell whether two levels grow by the same number; then their order at each point of a round never changes.

    A level is a pair: what it is now, and a period later. Both are to grow evenly.
    """
    return one[1] - one[0] == other[1] - other[0]


def ordered_periods(one, other):
    """Return for how many periods one of two levels stays above the other; None without end, 0 if neither does."""
    growth = (one[1] - one[0]) - (other[1] - other[0])
    above = one[0] - other[1]
    below = other[0] - one[1]
    if above >= 0:
        return sign_turn(above, growth)
    return sign_turn(below, -growth) if below >= 0 else 0


def mixed_periods(one, other):
    """Return behind how many periods one of two levels will stay above the other, as none does now; None for never."""
    if grow_alike(one, other):
        return None
    growth = (one[1] - one[0]) - (other[1] - other[0])
    return sign_turn(one[0] - other[1], growth) if growth > 0 else sign_turn(other[0] - one[1], -growth)
