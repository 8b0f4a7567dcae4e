"""Nets compared: where the results of two outlets, or the reads behind them, are unlike for the first time."""

from pullworks.checks import check_number, check_outlet
from pullworks.courses import source_course
from pullworks.errors import InvalidName, LimitExceeded
from pullworks.kinds import SOURCES
from pullworks.likeness import as_numbers, first_unlike, pieces
from pullworks.lines import least_of
from pullworks.nets import MOST_LOAD, loops, outlets, weight
from pullworks.plans import plan_of
from pullworks.wholes import power


def first_difference(one, outlet, other, place, *, first=0):
    """Return the least number, from `first` on, of a pull with unlike results in both nets, None if there is none."""
    check_places(one, outlet, other, place)
    check_number(first, 0, "first")
    check_both(one, other)
    return first_unlike(plan_of(one).tapes[outlet], plan_of(other).tapes[place], first)


def check_places(one, outlet, other, place):
    """Raise InvalidName for a value that is not an outlet of its net."""
    check_outlet(plan_of(one), outlet)
    check_outlet(plan_of(other), place)


def check_both(one, other):
    """Raise LimitExceeded if two nets are too heavy to be compared."""
    if power(2 * weight(one) * weight(other) + 3, max(loops(one), loops(other)) + 1) > MOST_LOAD:
        raise LimitExceeded(MOST_LOAD)


def first_read_difference(one, outlet, other, place, source):
    """Return the least number of a pull behind which the reads of a source are unlike in both nets, None for none."""
    check_places(one, outlet, other, place)
    if not is_source(one, source) or not is_source(other, source):
        raise InvalidName(source)
    check_both(one, other)
    return first_unlike_reads(one, outlet, other, place, (source, source))


def is_source(net, name):
    """Tell whether a value is the name of a source of a net."""
    return name in net and plan_of(net).kinds[name] in SOURCES


def first_unlike_reads(one, outlet, other, place, sources):
    """Return the first pull behind which a source of one net and one of the other are not read as often, or None."""
    never = [plan_of(one).tapes[outlet].stop("never"), plan_of(other).tapes[place].stop("never")]
    many = least_of(never)
    if many == 0:
        return None
    courses = [as_numbers(source_course(net, upper, source, many))
               for net, upper, source in ((one, outlet, sources[0]), (other, place, sources[1]))]
    for piece in pieces(courses[0], courses[1], 0, many):
        found = piece.first_unlike()
        if found is not None:
            return found
    return None


def agreements(one, outlet, other, place, n):
    """Return how many of the first n pulls have the same result in both nets."""
    check_places(one, outlet, other, place)
    check_number(n, 0, "n")
    check_both(one, other)
    tapes = [plan_of(one).tapes[outlet], plan_of(other).tapes[place]]
    behind = least_of([n] + [tape.stop("never") for tape in tapes])
    return sum([piece.many_alike() for piece in pieces(tapes[0], tapes[1], 0, behind)])


def same_results(one, other):
    """Tell whether two nets have the same outlets, in any order, with the same results for ever."""
    check_both(one, other)
    if sorted(outlets(one)) != sorted(outlets(other)):
        return False
    tapes, others = plan_of(one).tapes, plan_of(other).tapes
    return all([first_unlike(tapes[name], others[name], 0) is None for name in outlets(one)])
