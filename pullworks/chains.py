"""Nodes with one input, one over the other, over a list of results."""

from pullworks.kinds import are_parameters, input_range, is_kind
from pullworks.nets import Net
from pullworks.plans import tape_of
from pullworks.tapes import ONE, Tape

MOST_LINKS = 6

NAMES = ("b", "c", "d", "e", "f", "g")


def is_link(value):
    """Tell whether a value is a tuple of a kind with one input, no split, and right parameters."""
    if not isinstance(value, tuple) or len(value) != 2 or not is_link_kind(value[0]):
        return False
    return are_parameters(value[0], value[1])


def is_link_kind(value):
    """Tell whether a value is the word for a kind with one input, no split."""
    return is_kind(value) and value != "split" and input_range(value) == (1, 1)


def is_chain(value):
    """Tell whether a value is a list of such tuples that is not too long."""
    return isinstance(value, list) and len(value) <= MOST_LINKS and all([is_link(link) for link in value])


def check_chain_net(chain):
    """Raise the errors of the net of a chain over a row."""
    nodes = [("a", "row", ([],), [])]
    for name, (kind, parameters) in zip(NAMES, chain):
        nodes.append((name, kind, parameters, [nodes[-1][0]]))
    Net(nodes)


def rows_of(items, most):
    """Return all rows of at most so many items, the shortest ones first."""
    found = [[]]
    longest = [[]]
    for _ in range(most):
        longest = [row + [item] for row in longest for item in items]
        found.extend(longest)
    return found


def results_tape(results):
    """Return the tape of an input that gives items and errors, and then the end."""
    tape = Tape()
    for result in results:
        if result[0] == "item":
            tape.give(1, [(result[1], 0)], [ONE])
        else:
            tape.error(result[1], ONE)
    tape.end(ONE)
    tape.settle()
    return tape


def link_tape(kind, parameters, lower):
    """Return the tape of a node over that of its input."""
    return tape_of(("b", kind, parameters, ["a"]), [lower])


def chain_tapes(chain, row):
    """Return the tapes of a row and of the nodes of a chain over it."""
    tapes = [results_tape([("item", item) for item in row])]
    for kind, parameters in chain:
        tapes.append(link_tape(kind, parameters, tapes[-1]))
    return tapes


def chain_reads(chain, row):
    """Return how often a row has been read behind each pull on the last node of a chain, up to the first end."""
    tapes = chain_tapes(chain, row)[::-1]
    # Over so short a row there are not many pulls up to the end, so they are gone through one by one.
    counts = list(range(1, tapes[0].stop("end") + 2))
    for tape in tapes:
        # No node pulls an input that has ended.
        used = pulls_on_input(tape)
        counts = [used[count] for count in counts]
    return counts


def pulls_on_input(tape):
    """Return the number of pulls on the only input in the first 0, 1, 2 and so on pulls, up to the first end."""
    found = [0]
    for stretch in tape.stretches:
        for number in range(stretch.many):
            use = stretch.uses[number % len(stretch.uses)]
            found.append(found[-1] + use[0][1] if use else found[-1])
    return found


def first_unlike_count(one, other):
    """Return the first place at which two lists, the last counts of which go on for ever, are unlike, or None."""
    for place in range(max(len(one), len(other))):
        if one[min(place, len(one) - 1)] != other[min(place, len(other) - 1)]:
            return place
    return None
