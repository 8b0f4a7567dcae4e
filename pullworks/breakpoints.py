"""Breakpoints: what they are, and behind which pull on an outlet they hold for the first time."""

from pullworks.checks import FAR
from pullworks.conditions import is_test, modulus_of
from pullworks.demands import pull_above
from pullworks.items import MOST_TESTED
from pullworks.kinds import SOURCES
from pullworks.lines import first_passing_at, less, seen_from
from pullworks.wholes import is_between
from pullworks.words import is_one_of

MOST_BREAKS = 20

LONELY = ("note", "error", "end")


def are_breaks(plan, value):
    """Tell whether a value is a list of breakpoints for a net, and not too long."""
    return isinstance(value, list) and len(value) <= MOST_BREAKS and all([is_break(plan, part) for part in value])


def is_break(plan, value):
    """Tell whether a value is a breakpoint for a net."""
    if not isinstance(value, tuple) or not value:
        return False
    if len(value) == 1:
        return is_one_of(value[0], LONELY)
    if len(value) == 2:
        return is_one_of(value[0], ("item",)) and is_test(value[1])
    sources = tuple([name for name in plan.kinds if plan.kinds[name] in SOURCES])
    return (len(value) == 3 and is_one_of(value[0], ("read",)) and is_one_of(value[1], sources)
            and is_between(value[2], 0, FAR))


def are_light(weighs, breaks):
    """Tell whether the tests of breakpoints may be asked of a net of such a weight."""
    return all([part[0] != "item" or weighs * modulus_of(part[1]) <= MOST_TESTED for part in breaks])


def first_break(state, outlet, breaks):
    """Return (pull, index) for the first pull from here on behind which a breakpoint holds, None if there is none.

    The pulls on a closed outlet are numbered on.
    """
    pulls = [first_holding(state, outlet, part) for part in breaks]
    first = min([pull for pull in pulls if pull is not None], default=None)
    return None if first is None else (first, pulls.index(first))


def first_holding(state, outlet, part):
    """Return the first pull on an outlet from here on behind which a breakpoint holds, None if there is none."""
    here = state.pulls[outlet]
    if outlet in state.closed:
        return here if part[0] == "end" else None
    stretches = state.plan.tapes[outlet].stretches
    if part[0] == "read":
        return pull_reading(state, outlet, part[1], part[2])
    if part[0] == "item":
        return pull_passing(state.plan.tapes[outlet], here, part[1])
    if part[0] == "note":
        moments = state.plan.moments[outlet]
        return min([pull for pull, closing in moments if closing not in state.writers], default=None)
    if part[0] == "error":
        errors = [stretch.start for stretch in stretches if stretch.what == "error" and stretch.start >= here]
        return min(errors, default=None)
    return max(stretches[-1].start, here) if stretches[-1].what == "end" else None


def pull_reading(state, outlet, source, number):
    """Return the pull on an outlet that makes a read of a source, None if none will make it."""
    if source not in state.plan.below[outlet] or state.reads(source) > number:
        return None
    read = state.plan.tapes[source].pull_using(0, number)
    return None if read is None else pull_above(state.plan, source, read, outlet)


def pull_passing(tape, here, test):
    """Return the first pull from one on that gives an item that passes a test, None if there is none."""
    for stretch in tape.stretches:
        if stretch.what == "item" and (stretch.many is None or here < stretch.start + stretch.many):
            skipped = max(here - stretch.start, 0)
            many = less(stretch.many, skipped)
            at = first_passing_at(many, seen_from(stretch.lines, skipped, many), test)
            if at is not None:
                return stretch.start + skipped + at
    return None
