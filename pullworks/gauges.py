"""What the ports of a split have been given by the pulls on each outlet, and steps that are gone through."""

from math import gcd, lcm

from pullworks.courses import ahead_of, lower_course, node_course, steady_course
from pullworks.lines import less, seen_from
from pullworks.places import pulls_in
from pullworks.tapes import Tape


class Gauge:
    """For each outlet that reads from a split the courses of its ports: how many results they have been given.

    The item number n of a course is the number behind n pulls on the outlet, the end not counted. A port to which no
    way leads from the outlet has None in the place of its course.
    """

    def __init__(self, plan, split):
        self.plan = plan
        self.split = split
        self.ports = plan.users[split]
        self.courses = {}
        for outlet in plan.outlets:
            if split in plan.below[outlet]:
                self.courses[outlet] = [self.port_course(outlet, user, place) for user, place in self.ports]

    def port_course(self, outlet, user, place):
        """Return the course of a port for the pulls on an outlet, None if no way leads there."""
        if user not in self.plan.below[outlet]:
            return None
        never = self.plan.tapes[outlet].stop("never")
        pulls = steady_course(0, None if never is None else never + 1)
        course = lower_course(node_course(self.plan, outlet, user, pulls), self.plan.tapes[user], place)
        return capped(course, self.plan.tapes[self.split].stop("end"))

    def heights(self, outlet, pulls):
        """Return what each port has been given behind so many pulls on an outlet alone."""
        return [0 if course is None else course.result(pulls)[1] for course in self.courses[outlet]]


def capped(course, bound):
    """Return a course that stays at a bound, if there is one, as soon as it has come there."""
    found = Tape()
    for stretch in course.stretches:
        many = stretch.many if bound is None else ahead_of(stretch.many, stretch.lines, bound)
        found.give(many, stretch.lines, stretch.uses)
        rest = None if many is None else less(stretch.many, many)
        if rest != 0 and many is not None:
            found.give(rest, [(bound, 0)], [()])
    for stretch in found.stretches:
        # The fewer lines there are, the sooner rounds come back to the same ones.
        stretch.lines = fewest_lines(stretch.many, stretch.lines)
        stretch.uses = [()] * len(stretch.lines)
    found.settle()
    return found


def fewest_lines(many, lines):
    """Return the lines of so many items on as few lines as may be."""
    size = len(lines)
    wide = lines if many == size else lines + seen_from(lines, size, size)
    values = [value for value, _ in wide]
    for few in [number for number in range(1, size) if size % number == 0]:
        growths = [high - low for low, high in zip(values, values[few:])]
        if all([growths[at] == growths[at - few] for at in range(few, len(growths))]):
            return list(zip(values[:few], growths[:few]))
    return lines


class Block:
    """Steps that are gone through one after another.

    Each part is a tuple (word, outlet, many, block): pulls of a step and rounds of a repeat are rounds of a block.
    """

    def __init__(self, steps, names):
        self.parts = [part_of(step, names) for step in steps]
        self.growth = {name: pulls_in(steps, name) for name in names}
        self.pulled = [(name, self.growth[name]) for name in names if self.growth[name] > 0]
        self.each = sum([each for _, each in self.pulled])
        self.shut = shut_by(steps)
        self.known = None

    def spots(self):
        """Return the list of the spots of a round, in the order in which they are pulled first."""
        if self.known is None:
            self.known = spots_in(self)
        return self.known


class Spot:
    """A place in a round at which an outlet is pulled, once in each of the inner rounds around it.

    The turns are tuples (number of rounds, block), one for each repeat within the round, from the outer to the inner
    one. In the round, up to the first pull here and with it, each outlet has been pulled so often; before it there are
    so many pulls in all.
    """

    def __init__(self, outlet, turns, pulls, before):
        self.outlet = outlet
        self.turns = turns
        self.pulls = pulls
        self.before = before


def spots_in(block):
    """Return the list of the spots of a round of a block."""
    found = []
    pulls = {name: 0 for name in block.growth}
    before = 0
    for word, outlet, many, inner in block.parts:
        if word == "close" or many == 0:
            continue
        if inner is None:
            pulls = added(pulls, {outlet: 1}, 1)
            found.append(Spot(outlet, [], pulls, before))
            before += 1
            continue
        for spot in inner.spots():
            turns = [(many, inner)] + spot.turns if many > 1 else spot.turns
            found.append(Spot(spot.outlet, turns, added(pulls, spot.pulls, 1), before + spot.before))
        pulls = added(pulls, inner.growth, many)
        before += inner.each * many
    return found


def part_of(step, names):
    """Return the part of a block that does a step."""
    if step[0] == "close":
        return "close", step[1], 1, None
    if step[0] == "repeat":
        return "repeat", None, step[1], Block(step[2], names)
    if step[2] == 1:
        return "pull", step[1], 1, None
    return "pull", step[1], step[2], Block([("pull", step[1], 1)], names)


def shut_by(steps):
    """Return a list of the names of the outlets that are closed by steps."""
    found = []
    for step in steps:
        if step[0] == "close":
            found.append(step[1])
        elif step[0] == "repeat" and step[1] > 0:
            found.extend(shut_by(step[2]))
    return found


def added(pulls, more, times):
    """Return numbers of pulls to which others are added so many times."""
    return {name: pulls[name] + more.get(name, 0) * times for name in pulls}


def rounds_to_come_back(size, each):
    """Return behind how many rounds of so many pulls a line is met again that is one of so many."""
    return size // gcd(size, each)


def common_rounds(numbers):
    """Return the least common multiple of a list of integers."""
    found = 1
    for number in numbers:
        found = lcm(found, number)
    return found


def tuples_below(sizes):
    """Return the ascending list of all tuples of numbers from 0 on that are below some sizes."""
    found = [()]
    for size in sizes:
        found = [numbers + (number,) for numbers in found for number in range(size)]
    return found
