"""The events of a schedule: reads, notes, results that are given, and closes, in the order in which they happen."""

from pullworks.checks import FAR
from pullworks.chronicles import Chronicle
from pullworks.errors import InvalidBound, InvalidEvent, InvalidName
from pullworks.kinds import SOURCES
from pullworks.places import place_of, pull_place, steps_from
from pullworks.plans import plan_of
from pullworks.schedules import check_schedule
from pullworks.walks import Walk
from pullworks.wholes import is_between
from pullworks.words import is_one_of

MOST_EVENTS = 1000

SORTS = ("read", "note", "given", "closed")


def event_at(net, steps, number):
    """Return the event with a number, None if there are fewer."""
    check_schedule(net, steps)
    check_event(number)
    walk = walked(Chronicle(plan_of(net), steps), number, 1)
    return walk.found[0][1] if walk is not None else None


def check_event(value):
    """Raise InvalidEvent for a value that is not the number of an event."""
    if not is_between(value, 0, FAR):
        raise InvalidEvent(value)


def event_count(net, steps):
    """Return how many events there are, None if there is no end of them."""
    check_schedule(net, steps)
    chronicle = Chronicle(plan_of(net), steps)
    return chronicle.many_events() if chronicle.stuck_at is None else None


def events_from(net, steps, first, many):
    """Return at most so many events from a number on."""
    check_schedule(net, steps)
    check_event(first)
    if not is_between(many, 0, MOST_EVENTS):
        raise InvalidBound("many")
    if many == 0:
        return []
    walk = walked(Chronicle(plan_of(net), steps), first, many)
    return [] if walk is None else [event for _, event in walk.found]


def walked(chronicle, first, many):
    """Return a walk that has found so many events from a number on, or all that there are; None if there are none."""
    if chronicle.stuck_at is None and first >= chronicle.many_events():
        return None
    place = chronicle.place_of(None, first)
    walk = walk_at(chronicle, place)
    walk.look_for(None, first, many)
    walk_on(chronicle, walk, place)
    return walk


def walk_at(chronicle, place):
    """Return a walk that begins at a place."""
    return Walk(chronicle.plan, chronicle.pulls_at(place), chronicle.notes_at(place), chronicle.events_at(place))


def walk_on(chronicle, walk, place):
    """Go on with the steps from a place on until all events are found, or there are no more."""
    closed = {outlet: True for outlet in chronicle.plan.outlets if is_ahead(chronicle.closes[outlet], place)}
    start, ahead = place
    for path, number, step in steps_from(chronicle.steps, start, ahead):
        if walk.is_full():
            return
        outlet = step[1]
        if step[0] == "close":
            walk.close(outlet, [name for at, name in chronicle.note_list if at == (path, number)])
            closed[outlet] = True
        elif outlet in closed:
            walk.give(outlet, ("end",))
        else:
            walk.pull_outlet(outlet)


def is_ahead(close, place):
    """Tell whether a close, if there is one, is done ahead of a place."""
    return close is not None and close < place


def count_events(net, steps, sort, name):
    """Return how many events have a sort and a name, None if there is no end of them."""
    check_schedule(net, steps)
    plan = plan_of(net)
    check_subject(plan, sort, name)
    return many_of(Chronicle(plan, steps), sort, name)


def check_subject(plan, sort, name):
    """Raise an error for what is not the sort of an event, or not a name that events of the sort have."""
    if not is_one_of(sort, SORTS):
        raise InvalidBound("sort")
    if sort == "read":
        names = [known for known in plan.kinds if plan.kinds[known] in SOURCES]
    elif sort == "note":
        names = [plan.parameters[known][0] for known in plan.kinds if plan.kinds[known] == "closing"]
    else:
        names = plan.outlets
    if not is_one_of(name, tuple(names)):
        raise InvalidName(name)


def many_of(chronicle, sort, name):
    """Return how many events have a sort and a name, None if there is no end of them."""
    if sort == "read":
        return chronicle.reads_in_all(name)
    if sort == "note":
        return len(noted(chronicle, name))
    return chronicle.many_in_all("pull" if sort == "given" else "close", name)


def noted(chronicle, note):
    """Return (place, closing node) for all that write a note."""
    return [(place, name) for place, name in chronicle.note_list if chronicle.plan.parameters[name][0] == note]


def event_of(net, steps, sort, name, index):
    """Return (number, event) for the event with an index among those of a sort and a name, None for fewer."""
    check_schedule(net, steps)
    plan = plan_of(net)
    check_subject(plan, sort, name)
    check_event(index)
    chronicle = Chronicle(plan, steps)
    many = many_of(chronicle, sort, name)
    if many is not None and index >= many:
        return None
    if sort == "read":
        return found_at(chronicle, chronicle.place_of(name, index), name, index)
    if sort == "note":
        place, closing = noted(chronicle, name)[index]
        return note_at(chronicle, place, closing)
    if sort == "closed":
        return chronicle.events_at(place_of(steps, "close", name, index)), ("closed", name)
    path, number = pull_place(steps, name, index)
    closed = is_ahead(chronicle.closes[name], (path, number))
    result = ("end",) if closed else plan.tapes[name].result(index)
    return chronicle.events_at((path, number + 1)) - 1, ("given", name, result)


def found_at(chronicle, place, wanted, goal):
    """Return (number, event) for a read of a source, or the note of a closing node, in the pull at a place."""
    walk = walk_at(chronicle, place)
    walk.look_for(wanted, goal, 1)
    walk.pull_outlet(chronicle.step_at(place[0])[1])
    return walk.found[0]


def note_at(chronicle, place, closing):
    """Return (number, event) for the note that a closing node writes at a place."""
    if chronicle.step_at(place[0])[0] == "pull":
        return found_at(chronicle, place, closing, 0)
    with_it = [name for at, name in chronicle.note_list if at == place]
    number = chronicle.events_at(place) + 1 + with_it.index(closing)
    return number, ("note", chronicle.plan.parameters[closing][0])


def state_behind(net, steps, number):
    """Return the reads of all sources, the notes, and the outlet that is being pulled right behind an event."""
    check_schedule(net, steps)
    check_event(number)
    chronicle = Chronicle(plan_of(net), steps)
    walk = walked(chronicle, number, 1)
    if walk is None:
        raise InvalidEvent(number)
    found = [(source, walk.reads(source, walk.counts)) for source in chronicle.sources]
    notes = [chronicle.plan.parameters[name][0] for _, name in chronicle.note_list[:len(walk.writers)]]
    return found, notes, walk.pulling
