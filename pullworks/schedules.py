"""Schedules: pulls and closes one after another, with repeats."""

from pullworks.checks import FAR, check_outlet
from pullworks.errors import InvalidBound, InvalidSchedule, LimitExceeded
from pullworks.machines import machine_in
from pullworks.nets import MOST_LOAD, load
from pullworks.places import (close_place, ever_place, first_stop, pull_place, pulls_ahead, pulls_in,
                              pulls_until_close)
from pullworks.plans import plan_of
from pullworks.states import State
from pullworks.wholes import is_between
from pullworks.words import is_one_of

MOST_STEPS = 20
MOST_REPEATS = 2


def check_schedule(net, steps):
    """Raise an error for what is not a schedule of a net within the limits."""
    check_under(net, steps, 0)


def check_under(net, steps, repeats):
    """Raise an error for what is not a schedule of a net that may be done under so many further repeats."""
    if not isinstance(steps, list) or len(steps) > MOST_STEPS:
        raise InvalidSchedule(-1)
    names = tuple(plan_of(net).outlets)
    for at, step in enumerate(steps):
        if not is_step(step, names, MOST_REPEATS):
            raise InvalidSchedule(at)
    # Closes alone are not repeated in any way that counts.
    if any([step[0] != "close" for step in steps]) and load(net, 1 + repeats + nesting(steps)) > MOST_LOAD:
        raise LimitExceeded(MOST_LOAD)


def is_step(value, names, repeats):
    """Tell whether a value is a step for outlets with these names, with at most so many repeats one in another."""
    if not isinstance(value, tuple) or not value or not is_one_of(value[0], ("pull", "close", "repeat")):
        return False
    if value[0] == "close":
        return len(value) == 2 and is_one_of(value[1], names)
    if len(value) != 3:
        return False
    if value[0] == "pull":
        return is_one_of(value[1], names) and is_between(value[2], 0, FAR)
    return repeats > 0 and is_between(value[1], 0, FAR) and are_steps(value[2], names, repeats - 1)


def are_steps(value, names, repeats):
    """Tell whether a value is a list of steps that may be repeated."""
    if not isinstance(value, list) or not 1 <= len(value) <= MOST_STEPS:
        return False
    return all([is_step(step, names, repeats) for step in value])


def nesting(steps):
    """Return how many repeats stand one in another at most."""
    return max([1 + nesting(step[2]) for step in steps if step[0] == "repeat"], default=0)


def run(net, steps):
    """Return a machine that has done the steps of a schedule."""
    check_schedule(net, steps)
    return machine_in(net, end_state(plan_of(net), steps))


def end_state(plan, steps):
    """Return the state of a machine that has done the steps of a schedule."""
    stop = first_stop(plan, steps, pull_place)
    state = State(plan)
    for _, outlet, closing in changes(plan, steps, stop):
        if closing is None:
            state.close(outlet)
        else:
            state.write(closing)
    for outlet in plan.outlets:
        state.pulls[outlet] = pulls_on_tape(steps, outlet, stop)
    if stop is not None:
        state.looping = stop.name
    return state


def changes(plan, steps, stop):
    """Return what happens up to a stop besides pulls, in order: the closes, and the moments of notes.

    Each is a tuple (place, outlet, closing node), with None for a close in place of the closing node.
    """
    found = []
    for outlet in plan.outlets:
        close = close_place(steps, outlet)
        if close is not None:
            found.append((close, outlet, None))
        for pull, closing in plan.moments[outlet]:
            place = pull_place(steps, outlet, pull)
            if place is not None and (close is None or place < close):
                found.append((place, outlet, closing))
    # The moments within one pull stay in their order.
    found = sorted(found, key=lambda change: change[0])
    return [change for change in found if stop is None or change[0] <= stop.place]


def written(plan, steps):
    """Return (place, closing node) for the notes that the steps write, in order."""
    state = State(plan)
    found = []
    for place, outlet, closing in changes(plan, steps, first_stop(plan, steps, pull_place)):
        before = len(state.writers)
        if closing is None:
            state.close(outlet)
        else:
            state.write(closing)
        found.extend([(place, name) for name in state.writers[before:]])
    return found


def pulls_done(steps, outlet, stop):
    """Return how many pulls on an outlet are answered."""
    return pulls_in(steps, outlet) if stop is None else pulls_ahead(steps, outlet, stop.place)


def pulls_on_tape(steps, outlet, stop):
    """Return how many pulls on an outlet are answered and made ahead of its close."""
    done = pulls_done(steps, outlet, stop)
    bound = pulls_until_close(steps, outlet)
    return done if bound is None else min(done, bound)


def tallies(net, steps):
    """Return for each outlet how many results of its pulls are items, errors and ends."""
    check_schedule(net, steps)
    plan = plan_of(net)
    stop = first_stop(plan, steps, pull_place)
    found = []
    for outlet in plan.outlets:
        tape = plan.tapes[outlet]
        pulls = pulls_on_tape(steps, outlet, stop)
        items, errors = tape.items_in(pulls), tape.errors_in(pulls)
        found.append((outlet, items, errors, pulls_done(steps, outlet, stop) - items - errors))
    return found


def done_steps(net, steps):
    """Return None if all steps are done, else where the pull is that is never answered, and which node goes on."""
    check_schedule(net, steps)
    stop = first_stop(plan_of(net), steps, pull_place)
    if stop is None:
        return None
    path, number = stop.place
    return path, number, stop.name


def first_round(net, steps, outlet, result):
    """Return the first round of steps that are repeated for ever in which an outlet gives an "error" or the "end"."""
    check_under(net, steps, 1)
    plan = plan_of(net)
    check_outlet(plan, outlet)
    if not is_one_of(result, ("error", "end")):
        raise InvalidBound("result")
    pull = first_pull(plan.tapes[outlet], result, pulls_until_close(steps, outlet))
    place = None if pull is None else ever_place(steps, outlet, pull)
    stop = first_stop(plan, steps, ever_place)
    if place is None or stop is not None and stop.place < place:
        return None
    return place[0][0]


def first_pull(tape, what, bound):
    """Return the first pull with an "error" or the "end" on an outlet that is closed behind so many pulls, or not."""
    starts = [stretch.start for stretch in tape.stretches if stretch.what == what]
    if bound is None:
        return min(starts, default=None)
    if what == "end":
        return min([bound] + starts)
    return min([start for start in starts if start < bound], default=None)
