"""Fields: clean rounds of a block, in which all ports stay on the lines of their courses, taken all at once.

A size that is greater than all sizes before it is the lead of a port of the outlet that has just been pulled over
another port. This one has been given as much as the first one of its outlets has brought it; so the lead is the least
of several rows, one for each of these outlets. The variables of a row are the numbers of the rounds, one for each
repeat around the pull. The pulls at a spot that meet the same lines are a patch: for them the rows are exact, and those
with a lead of so much are points of integers (see grids.py).
"""

from pullworks.gauges import common_rounds, rounds_to_come_back, tuples_below
from pullworks.grids import ceiling, first_point, greatest_least, lowered, settled
from pullworks.programs import peak


class Field:
    """Clean rounds that a survey is about to do, behind which outlets have brought the ports to these ends."""

    def __init__(self, survey, many, block, ends):
        self.gauge = survey.gauge
        self.counts = survey.counts
        self.given = survey.given
        self.open_ports = survey.open_ports
        self.gone = survey.gone
        self.many = many
        self.block = block
        self.ends = ends
        self.rivals = [self.rivals_at(at) for at in range(len(self.given))]

    def rivals_at(self, at):
        """Return the outlets that bring a port more in these rounds than it has been given ahead of them."""
        return [outlet for outlet, levels in self.ends.items() if levels[at] > self.given[at]]

    def patches(self, best):
        """Return patches in which all leads above a best one stand."""
        found = []
        for spot in self.block.spots():
            for high, end in enumerate(self.ends.get(spot.outlet, [])):
                for low in self.open_ports:
                    if low != high and end - self.given[low] > best:
                        found.extend(self.patches_at(spot, high, low, best))
        return found

    def patches_at(self, spot, high, low, best):
        """Return such patches of a spot for the lead of a port over another one."""
        turns = [(many, block) for many, block in [(self.many, self.block)] + spot.turns if many > 1]
        ways = [self.way(spot, turns, outlet, low) for outlet in self.rivals[low]]
        leader = self.way(spot, turns, spot.outlet, high)
        periods = [common_rounds([way.period(at) for way in ways + [leader]]) for at in range(len(turns))]
        still = [self.given[low]] + [0] * len(turns)
        found = []
        for start in tuples_below([min(period, many) for period, (many, _) in zip(periods, turns)]):
            top = leader.row(start, periods)
            rows = [[a - b for a, b in zip(top, row)] for row in [still] + [way.row(start, periods) for way in ways]]
            box = [(0, (many - 1 - ahead) // period) for (many, _), ahead, period in zip(turns, start, periods)]
            first = self.gone + spot.before + sum([ahead * block.each for ahead, (_, block) in zip(start, turns)])
            patch = Patch(first, [period * block.each for period, (_, block) in zip(periods, turns)], box, rows)
            if patch.at_most() > best:
                found.append(patch)
        return found

    def way(self, spot, turns, outlet, at):
        """Return the way on which an outlet brings a port on at the pulls of a spot."""
        pulls = self.counts[outlet]
        stretch = self.gauge.courses[outlet][at].stretch_of(pulls)
        place = pulls + spot.pulls[outlet] - stretch.start
        return Way(stretch.lines, place, [block.growth[outlet] for _, block in turns])


class Way:
    """What a port is brought to at the pulls of a spot: items on lines from a place on, with a stride for each turn."""

    def __init__(self, lines, place, strides):
        self.lines = lines
        self.place = place
        self.strides = strides

    def period(self, at):
        """Return behind how many rounds of a turn the same line is met again."""
        return rounds_to_come_back(len(self.lines), self.strides[at])

    def row(self, start, periods):
        """Return the row of the items so many periods of each turn behind a number of its rounds."""
        place = self.place + sum([rounds * stride for rounds, stride in zip(start, self.strides)])
        times, at = divmod(place, len(self.lines))
        value, growth = self.lines[at]
        factors = [period * stride // len(self.lines) * growth for period, stride in zip(periods, self.strides)]
        return [value + times * growth] + factors


class Patch:
    """Pulls at a spot: the number of the first one, and how many pulls later it is for a step of each variable.

    The least of the rows is the lead of a port over another one, for all points of integers in the box.
    """

    def __init__(self, first, steps, box, rows):
        self.first = first
        self.steps = steps
        self.box = box
        self.rows = rows

    def at_most(self):
        """Return a number that no lead is above."""
        return min([peak(row, self.box) for row in self.rows])

    def earliest(self, level):
        """Return a number ahead of which no pull has such a lead, None if it is seen at once that none has."""
        if self.at_most() < level:
            return None
        if not self.box:
            return self.first
        rounds = 0
        for row in self.rows:
            lack = level - peak(row[:1] + row[2:], self.box[1:])
            if lack > 0:
                rounds = max(rounds, -(-lack // row[1]))
        return self.first + rounds * self.steps[0]

    def first_with(self, level):
        """Return the number of the first pull with such a lead, None if there is none."""
        point = first_point(self.box, lowered(self.rows, level))
        if point is None:
            return None
        return self.first + sum([times * step for times, step in zip(point, self.steps)])


def greatest_lead(patches, best):
    """Return the greatest lead in patches, or the best one if none is above this."""
    bodies = []
    for _, at in sorted([(-patch.at_most(), at) for at, patch in enumerate(patches)]):
        box, rows = settled(patches[at].box, patches[at].rows)
        top, best = ceiling(box, rows, best)
        bodies.append((top, box, rows))
    for top, box, rows in sorted(bodies, key=lambda body: -body[0]):
        if top > best:
            best = greatest_least(box, rows, best, top)
    return best


def first_lead(patches, level):
    """Return the number of the first pull in patches with such a lead, None if there is none."""
    rated = [(patch.earliest(level), at) for at, patch in enumerate(patches)]
    found = None
    for number, at in sorted([pair for pair in rated if pair[0] is not None]):
        if found is not None and number >= found:
            return found
        first = patches[at].first_with(level)
        if first is not None:
            found = first if found is None else min(found, first)
    return found
