"""Courses: tapes of numbers that never fall, such as how often a node has been pulled behind each pull on an outlet."""

from math import gcd, lcm

from pullworks.lines import first_passing_at, least_of, less, parts, seen_from, side_by_side, sign_turn
from pullworks.plans import plan_of
from pullworks.tapes import Reader, Tape


def read_course(net, outlet, source, many):
    """Return the course of the reads of a source behind each of so many first pulls on an outlet, all answered."""
    plan = plan_of(net)
    pulls = node_course(plan, outlet, source, steady_course(1, many))
    return lower_course(pulls, plan.tapes[source], 0)


def source_course(net, outlet, source, many):
    """Return such a course also for a source from which an outlet does not read."""
    if source in plan_of(net).below[outlet]:
        return read_course(net, outlet, source, many)
    course = Tape()
    course.give(many, [(0, 0)], [()])
    return course


def steady_course(first, many):
    """Return the course of so many numbers from a first one on, each one more than the one before."""
    course = Tape()
    course.give(many, [(first, 1)], [()])
    return course


def node_course(plan, outlet, name, course):
    """Return the course of the pulls on a node, for a split on its tape, from the course of the pulls on an outlet."""
    found = None
    for way in way_courses(plan, outlet, name, course):
        # What one port of a split has read is not read again for another one.
        found = way if found is None else higher_course(found, way)
    return found


def way_courses(plan, upper, name, course):
    """Return the courses of the pulls on a node, one for each way to it, from the course of those on an upper node."""
    if upper == name:
        return [course]
    found = []
    for place, lower in enumerate(plan.inputs[upper]):
        if name in plan.below[lower]:
            below = lower_course(course, plan.tapes[upper], place)
            found.extend(way_courses(plan, lower, name, below))
    return found


def lower_course(course, tape, place):
    """Return the course of the pulls on an input of a node, from the course of the pulls on the node and its tape."""
    found = Tape()
    for part in course.stretches:
        done = 0
        while part.many is None or done < part.many:
            left = less(part.many, done)
            lines = seen_from(part.lines, done, left)
            many = add_within(left, lines, tape, place, found)
            if many is None:
                return found
            done += many
    return found


def add_within(many, lines, tape, place, found):
    """Add the pulls on an input behind the first of so many numbers of pulls, those in one stretch; return how many."""
    pulls = lines[0][0]
    if pulls == 0:
        number = ahead_of(many, lines, 1)
        found.give(number, [(0, 0)], [()])
        return number
    stretch = tape.stretch_of(pulls - 1)
    number = many
    if stretch.many is not None and stretch.what != "end":
        number = ahead_of(many, lines, stretch.start + stretch.many + 1)
    lower = used_lines(number, seen_from(lines, 0, number), stretch, place)
    found.give(number, lower, [()] * len(lower))
    return number


def ahead_of(many, lines, bound):
    """Return how many of so many numbers, which never fall, stand ahead of the first one that is not below a bound."""
    if many is None or many > len(lines):
        found = first_passing_at(many, lines, ("from", bound))
        return many if found is None else found
    low = 0
    high = many
    while low < high:
        middle = (low + high) // 2
        if lines[middle][0] >= bound:
            high = middle
        else:
            low = middle + 1
    return low


def used_lines(many, lines, stretch, place):
    """Return the lines of the pulls on an input behind so many numbers of pulls, all of which end in a stretch."""
    before = stretch.used_before.get(place, 0)
    if stretch.what == "end":
        # Behind the first end nothing is pulled any more.
        return [(before + stretch.used(place, 1), 0)]
    if place not in stretch.sums:
        return [(before, 0)]
    sums = stretch.sums[place]
    size = len(stretch.uses)
    times = 1
    # Where one way to a node overtakes another one, lines that grow unlike may stand side by side.
    for growth in sorted(set([growth for _, growth in lines])):
        times = lcm(times, size // gcd(size, growth))
    number = least_of([len(lines) * times, many])
    found = []
    for turn in range(number // len(lines) + 1):
        for value, growth in lines:
            rounds, rest = divmod(value + turn * growth - stretch.start, size)
            found.append((before + rounds * sums[-1] + sums[rest], growth * times // size * sums[-1]))
    return found[:number]


def higher_course(one, other):
    """Return the course of the greater number of two courses, which are equally long."""
    found = Tape()
    readers = [Reader(one), Reader(other)]
    while readers[0].left() != 0 and not found.is_finished():
        many = least_of([reader.left() for reader in readers])
        high, low = side_by_side([reader.look(many) for reader in readers], many)
        turns = [sign_turn(upper[0] - lower[0], upper[1] - lower[1]) for upper, lower in zip(high, low)]
        turns = [turn for turn in turns if turn is not None]
        for (number, uppers), (_, lowers) in zip(parts(many, high, turns), parts(many, low, turns)):
            lines = [upper if upper[0] >= lower[0] else lower for upper, lower in zip(uppers, lowers)]
            found.give(number, lines, [()] * len(lines))
        for reader in readers:
            reader.skip(many)
    return found
