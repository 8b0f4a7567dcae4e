"""How often each node has been pulled behind a schedule, be it within a pull that is never answered.

In a pull that is never answered there may be no end of pulls on what is below it: such a number of pulls is None.
"""


def counts_behind(plan, pulls, stuck):
    """Return the number of answered pulls on each node, for a split on its tape.

    `pulls` are those on the outlets that were answered, `stuck` is the outlet with a pull that is never answered, if
    there is one, or None.
    """
    uses = {} if stuck is None else uses_within(plan, stuck)
    found = {}
    for node in plan.nodes[::-1]:
        name = node[0]
        if name in pulls:
            found[name] = pulls[name]
            continue
        ways = []
        for user, place in plan.users[name]:
            if (user, place) in uses:
                ways.append(uses[(user, place)])
            else:
                ways.append(used_by(plan.tapes[user], place, found[user]))
        found[name] = None if None in ways else max(ways, default=0)
    return found


def used_by(tape, place, pulls):
    """Return the number of pulls on an input in so many answered pulls of a node, or in no end of them."""
    if pulls is not None:
        return tape.used(place, pulls)
    last = tape.stretches[-1]
    return None if last.used(place, last.many or len(last.lines)) > 0 else last.used_before.get(place, 0)


def uses_within(plan, name):
    """Return the numbers of answered pulls by each port of the nodes that are in the pull that is never answered."""
    found = {}
    while True:
        last = plan.tapes[name].stretches[-1]
        lower = None
        for place, many in last.uses[0]:
            before = last.used_before.get(place, 0)
            found[(name, place)] = None if many is None else before + many
            lower = place
        if found[(name, lower)] is None:
            return found
        # The last one of these pulls is the one that is not answered.
        found[(name, lower)] -= 1
        name = plan.inputs[name][lower]


def reads_by(plan, source, counts):
    """Return how many results of a source have been read, None for no end of them."""
    return used_by(plan.tapes[source], 0, counts[source])
