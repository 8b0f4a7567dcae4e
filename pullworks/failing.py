"""Failures: where errors come from and go to, and what is ended and closed by them."""

from pullworks.checks import check_outlet
from pullworks.errors import InvalidCall, InvalidName
from pullworks.lines import least_of
from pullworks.moments import counts_behind
from pullworks.nets import outlets
from pullworks.places import close_place, first_stop, pull_place
from pullworks.plans import Plan, plan_of
from pullworks.schedules import check_schedule, end_state, written
from pullworks.words import is_one_of


def error_ways(net, name):
    """Return the ascending list of the ways that the error of a fault goes up."""
    plan = plan_of(net)
    check_fault(plan, name)
    found = []
    for way in sorted(ways_up(plan, name)):
        # A node that uses a split more than once is on the same way for all its ports.
        if not found or way != found[-1]:
            found.append(way)
    return found


def check_fault(plan, value):
    """Raise InvalidName for a value that is not the name of a fault."""
    if not is_one_of(value, tuple([name for name in plan.kinds if plan.kinds[name] == "fault"])):
        raise InvalidName(value)


def ways_up(plan, name):
    """Return the ways from a node up to the first calm, or to an outlet."""
    if plan.kinds[name] == "calm" or not plan.users[name]:
        return [[name]]
    return [[name] + way for user, _ in plan.users[name] for way in ways_up(plan, user)]


def raised(net, steps):
    """Return the names of the faults that have raised their errors when the steps are done."""
    check_schedule(net, steps)
    plan = plan_of(net)
    counts = counts_when_done(plan, steps)
    found = []
    for name in plan.kinds:
        if plan.kinds[name] == "fault":
            pull = plan.error_pull(name)
            if pull is not None and (counts[name] is None or counts[name] > pull):
                found.append(name)
    return found


def counts_when_done(plan, steps):
    """Return the number of answered pulls on each node when the steps are done."""
    stop = first_stop(plan, steps, pull_place)
    return counts_behind(plan, end_state(plan, steps).pulls, None if stop is None else stop.outlet)


def exposure(net, steps, name):
    """Return how often a fault would be pulled if it raised nothing, while not ended; None if a pull has no answer."""
    check_schedule(net, steps)
    check_fault(plan_of(net), name)
    nodes = [(node[0], "scale", (1, 0), node[3]) if node[0] == name else node for node in net.node_list()]
    plan = Plan(nodes, outlets(net))
    if first_stop(plan, steps, pull_place) is not None:
        return None
    pulls = plan.pulls_within(end_state(plan, steps).pulls)[name]
    return least_of([pulls, plan.ended_behind(name)])


def error_places(net, steps):
    """Return (outlet, word, path, number) for the pulls of the steps whose results are errors, in order."""
    check_schedule(net, steps)
    plan = plan_of(net)
    stop = first_stop(plan, steps, pull_place)
    found = []
    for outlet in plan.outlets:
        close = close_place(steps, outlet)
        for stretch in plan.tapes[outlet].stretches:
            place = pull_place(steps, outlet, stretch.start) if stretch.what == "error" else None
            if place is not None and is_ahead(place, close) and (stop is None or place < stop.place):
                found.append((place, outlet, stretch.word))
    return [(outlet, word, place[0], place[1]) for place, outlet, word in sorted(found)]


def is_ahead(place, other):
    """Tell whether a place is ahead of another one, if there is another one."""
    return other is None or place < other


def note_places(net, steps):
    """Return (note, path, number) for the notes, in the order in which they are written."""
    check_schedule(net, steps)
    plan = plan_of(net)
    return [(plan.parameters[name][0], place[0], place[1]) for place, name in written(plan, steps)]


def ended_nodes(net, steps):
    """Return the names of the nodes that are ended when the steps are done, without splits."""
    check_schedule(net, steps)
    plan = plan_of(net)
    counts = counts_when_done(plan, steps)
    closed = end_state(plan, steps).closed_nodes()
    found = []
    for name in plan.kinds:
        behind = plan.ended_behind(name)
        pulled = behind is not None and counts[name] is not None and counts[name] >= behind
        if plan.kinds[name] != "split" and (name in closed or pulled):
            found.append(name)
    return found


def close_effect(net, steps, outlet):
    """Return the names of the nodes that a close would close then, without splits, and the notes it would write."""
    check_schedule(net, steps)
    plan = plan_of(net)
    check_outlet(plan, outlet)
    state = end_state(plan, steps)
    if state.looping is not None:
        raise InvalidCall("stuck")
    closed = [name for name in state.closing_order(outlet) if plan.kinds[name] != "split"]
    fresh = [name for name in closed if plan.kinds[name] == "closing" and name not in state.writers]
    return closed, [plan.parameters[name][0] for name in fresh]
