"""Places in a schedule: where a pull or a close is done, and how many pulls there are ahead of it.

A place is a tuple (path, number). The path of a step has its index in the schedule and, for each repeat on the way,
the number of the round and the index in its list. The number tells how many pulls of this step, in this round, are made
before; it is 1 right behind a close. A path that ends with the index of a repeat stands for what is ahead of it. Python
compares places as they come. If a schedule is repeated for ever, paths begin with the round.
"""


class Stop:
    """A pull that is never answered: its place, the outlet, and the name of the node that goes on."""

    def __init__(self, place, outlet, name):
        self.place = place
        self.outlet = outlet
        self.name = name


def many_in(steps, word, outlet):
    """Return how many pulls on an outlet, or closes of it, as the word says, there are."""
    return sum([many_of(step, word, outlet) for step in steps])


def many_of(step, word, outlet):
    """Return how many pulls on an outlet, or closes of it, a step makes."""
    if step[0] == "repeat":
        return step[1] * many_in(step[2], word, outlet)
    if step[0] != word or step[1] != outlet:
        return 0
    return step[2] if word == "pull" else 1


def many_ahead(steps, word, outlet, place):
    """Return how many pulls on an outlet, or closes of it, are made ahead of a place."""
    path, number = place
    step = steps[path[0]]
    before = many_in(steps[:path[0]], word, outlet)
    if step[0] != "repeat":
        return before + number if step[0] == word and step[1] == outlet else before
    if len(path) == 1:
        return before
    rounds = path[1] * many_in(step[2], word, outlet)
    return before + rounds + many_ahead(step[2], word, outlet, (path[2:], number))


def place_of(steps, word, outlet, index):
    """Return the place of the pull on an outlet, or the close of it, with an index, None if there are fewer."""
    left = index
    for at, step in enumerate(steps):
        many = many_of(step, word, outlet)
        if left >= many:
            left -= many
        elif step[0] != "repeat":
            return (at,), left
        else:
            path, number = place_for_ever(step[2], word, outlet, left)
            return (at,) + path, number
    return None


def place_for_ever(steps, word, outlet, index):
    """Return such a place in steps that are repeated for ever."""
    each = many_in(steps, word, outlet)
    if each == 0:
        return None
    path, number = place_of(steps, word, outlet, index % each)
    return (index // each,) + path, number


def pulls_in(steps, outlet):
    """Return how many pulls on an outlet there are."""
    return many_in(steps, "pull", outlet)


def pulls_ahead(steps, outlet, place):
    """Return how many pulls on an outlet are made ahead of a place."""
    return many_ahead(steps, "pull", outlet, place)


def pull_place(steps, outlet, pull):
    """Return the place of the pull with a number on an outlet, None if there are fewer."""
    return place_of(steps, "pull", outlet, pull)


def ever_place(steps, outlet, pull):
    """Return the place of the pull with a number on an outlet in steps that are repeated for ever, None for none."""
    return place_for_ever(steps, "pull", outlet, pull)


def close_place(steps, outlet):
    """Return the place where an outlet is closed for the first time, None if it is not."""
    return place_of(steps, "close", outlet, 0)


def pulls_until_close(steps, outlet):
    """Return how many pulls on an outlet are made ahead of its first close, None if it is not closed."""
    close = close_place(steps, outlet)
    return None if close is None else pulls_ahead(steps, outlet, close)


def stop_on(plan, steps, outlet, find):
    """Return the pull on an outlet that is never answered, None if there is none; find tells the place of a pull."""
    tape = plan.tapes[outlet]
    never = tape.stop("never")
    bound = pulls_until_close(steps, outlet)
    if never is None or bound is not None and never >= bound:
        return None
    place = find(steps, outlet, never)
    return None if place is None else Stop(place, outlet, tape.result(never)[1])


def first_stop(plan, steps, find):
    """Return the first pull that is never answered, None if there is none; find tells the place of a pull."""
    found = None
    for outlet in plan.outlets:
        stop = stop_on(plan, steps, outlet, find)
        if stop is not None and (found is None or stop.place < found.place):
            found = stop
    return found


def steps_from(steps, path, number):
    """Yield (path, number, step) for the pulls and closes from a place on, in order."""
    start = path[0] if path else 0
    for at in range(start, len(steps)):
        step = steps[at]
        rest = path[1:] if at == start else ()
        first = number if at == start else 0
        if step[0] == "close" and first == 0:
            yield (at,), 0, step
        elif step[0] == "pull":
            for done in range(first, step[2]):
                yield (at,), done, step
        elif step[0] == "repeat" and does_anything(step[2]):
            inner = step[2]
            for turn in range(rest[0] if rest else 0, step[1]):
                tail = rest[1:]
                for lower, done, what in steps_from(inner, tail, first):
                    yield (at, turn) + lower, done, what
                rest = ()
                first = 0


def does_anything(steps):
    """Tell whether steps make any pull or close."""
    for step in steps:
        if step[0] == "close" or step[0] == "pull" and step[2] > 0:
            return True
        if step[0] == "repeat" and step[1] > 0 and does_anything(step[2]):
            return True
    return False
