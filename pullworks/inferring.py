"""Parameters from records: what a node with one input got in each of its pulls, and what it gave."""

from pullworks.chains import is_link, is_link_kind, link_tape, results_tape
from pullworks.comparing import first_unlike_reads
from pullworks.errors import InvalidBound, InvalidRecord
from pullworks.kinds import are_parameters
from pullworks.likeness import first_unlike
from pullworks.lines import least_of
from pullworks.nets import Net
from pullworks.plans import plan_of
from pullworks.ranges import fitting_ranges, hole_range
from pullworks.wholes import is_between, is_integer
from pullworks.words import is_name

MOST_RESULTS = 1000
MOST_ENTRIES = 300

END = ("end",)


def record_over(kind, parameters, results, many):
    """Return the record of the first pulls of a node whose input gives these results and then the end."""
    check_link(kind, parameters)
    if not isinstance(results, list) or len(results) >= MOST_RESULTS or not all([is_given(row) for row in results]):
        raise InvalidBound("results")
    if not is_between(many, 0, MOST_ENTRIES):
        raise InvalidBound("many")
    tape = link_tape(kind, parameters, results_tape(results))
    given = results + [END]
    return [(given[tape.used(0, pull):tape.used(0, pull + 1)], tape.result(pull)) for pull in range(many)]


def check_link(kind, parameters):
    """Raise InvalidBound for a value that is not the kind of a node with one input, or not its parameters."""
    if not is_link_kind(kind):
        raise InvalidBound("kind")
    if not are_parameters(kind, parameters):
        raise InvalidBound("parameters")


def is_given(value):
    """Tell whether a value is an item or an error."""
    if not isinstance(value, tuple) or len(value) != 2 or not isinstance(value[0], str):
        return False
    return value[0] == "item" and is_integer(value[1]) or value[0] == "error" and is_name(value[1])


def is_result(value):
    """Tell whether a value is an item, an error, or the end."""
    if isinstance(value, tuple) and len(value) == 1:
        return isinstance(value[0], str) and value[0] == "end"
    return is_given(value)


def contradicted(kind, parameters, record):
    """Return the index of the first entry that a node cannot have behind those before it, None if there is none."""
    check_link(kind, parameters)
    check_record(record)
    return first_contradiction(kind, parameters, record)


def check_record(record):
    """Raise InvalidRecord for a value that is not a record."""
    if not isinstance(record, list) or len(record) > MOST_ENTRIES:
        raise InvalidRecord(-1)
    many = 0
    for at, entry in enumerate(record):
        if not is_entry(entry):
            raise InvalidRecord(at)
        many += len(entry[0])
        if many > MOST_RESULTS:
            raise InvalidRecord(at)


def is_entry(value):
    """Tell whether a value is a tuple of a list of results and a result."""
    if not isinstance(value, tuple) or len(value) != 2 or not isinstance(value[0], list):
        return False
    return all([is_result(result) for result in value[0]]) and is_result(value[1])


def first_contradiction(kind, parameters, record):
    """Return what `contradicted` does for what is known to be a record."""
    got = [result for entry in record for result in entry[0]]
    # Behind the end an input gives nothing else, and a node does not pull it again.
    tape = link_tape(kind, parameters, results_tape(got[:got.index(END)] if END in got else got))
    used = 0
    for pull, (part, result) in enumerate(record):
        used += len(part)
        if tape.used(0, pull + 1) != used or tape.result(pull) != result:
            return pull
    return None


def fitting(kind, parameters, record):
    """Return the least and the greatest value of a missing parameter that do not contradict a record, or None."""
    if not is_link_kind(kind):
        raise InvalidBound("kind")
    bounds = hole_range(kind, parameters)
    if bounds is None:
        raise InvalidBound("parameters")
    check_record(record)
    found = []
    for low, high in fitting_ranges(kind, parameters, record):
        low, high = max(low, bounds[0]), min(high, bounds[1])
        # All values of a range do the same in this record.
        if low <= high and first_contradiction(kind, filled(parameters, low), record) is None:
            found.extend([low, high])
    return (min(found), max(found)) if found else None


def filled(parameters, worth):
    """Return parameters with a value in the place of None."""
    found = []
    for part in parameters:
        if part is None:
            found.append(worth)
        elif isinstance(part, tuple) and part[1] is None:
            found.append((part[0], worth))
        else:
            found.append(part)
    return tuple(found)


def telling_pull(one, other):
    """Return the number of the first pull with unlike entries of two nodes, each over a count, or None."""
    if not is_link(one):
        raise InvalidBound("one")
    if not is_link(other):
        raise InvalidBound("other")
    net = Net([("a", "count", (0, 1), []), ("b", one[0], one[1], ["a"]),
               ("c", "count", (0, 1), []), ("d", other[0], other[1], ["c"])])
    tapes = plan_of(net).tapes
    return least_of([first_unlike(tapes["b"], tapes["d"], 0), first_unlike_reads(net, "b", net, "d", ("a", "c"))])
