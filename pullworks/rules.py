"""Rules that replace a node and its input by others, and what they keep; chains that a row of items tells apart."""

from pullworks.chains import chain_reads, chain_tapes, check_chain_net, first_unlike_count, is_chain, rows_of
from pullworks.comparing import check_both, first_unlike_reads
from pullworks.errors import InvalidName, InvalidRecord, InvalidRule, LimitExceeded
from pullworks.kinds import SOURCES, are_parameters
from pullworks.likeness import first_unlike
from pullworks.nets import Net, outlets
from pullworks.plans import plan_of
from pullworks.wholes import is_between, is_parameter
from pullworks.words import is_one_of

MOST_ITEMS = 8
MOST_LENGTH = 8
MOST_ROWS = 1000

RULES = ("drops", "early", "keeps", "late", "rise", "scales", "sink", "steps", "takes")

NORMAL = ("scales", "takes", "drops", "steps")

RISING = ("take", "drop", "step", "stutter", "ahead", "fault", "dying", "calm")


def rule_names():
    """Return the names of the rules in ascending order."""
    return list(RULES)


def sites(net, rule):
    """Return the names of the nodes at which a rule fits."""
    check_rule(rule)
    return [node[0] for node in net.node_list() if replacement(net, rule, node) is not None]


def check_rule(value):
    """Raise InvalidRule for a value that is not the name of a rule."""
    if not is_one_of(value, RULES):
        raise InvalidRule(value)


def replacement(net, rule, upper):
    """Return the kinds and parameters in place of a node and its input, the upper one first; None for no fit."""
    if len(upper[3]) != 1:
        return None
    lower = net[upper[3][0]]
    make = MAKERS[rule]
    found = make(upper[1], upper[2], lower[1], lower[2])
    if found is None or not all([are_parameters(kind, parameters) for kind, parameters in found]):
        return None
    return found


def scales(kind, parameters, under, below):
    """Two scales become one."""
    if kind != "scale" or under != "scale":
        return None
    a, b = parameters
    c, d = below
    return [("scale", (a * c, a * d + b))]


def takes(kind, parameters, under, below):
    """Of two takes the lesser one is left."""
    return [("take", (min(parameters[0], below[0]),))] if kind == under == "take" else None


def drops(kind, parameters, under, below):
    """Two drops become one."""
    return [("drop", (parameters[0] + below[0],))] if kind == under == "drop" else None


def steps(kind, parameters, under, below):
    """Two steps become one."""
    return [("step", (parameters[0] * below[0],))] if kind == under == "step" else None


def swapped_keeps(kind, parameters, under, below):
    """Two keeps change places."""
    return [(under, below), (kind, parameters)] if kind == under == "keep" else None


def sink(kind, parameters, under, below):
    """A keep goes below a scale, with a test of what the scale has not changed yet."""
    if kind != "keep" or under != "scale" or below[0] == 0:
        return None
    return [(under, below), (kind, (sunk_test(parameters[0], below[0], below[1]),))]


def sunk_test(test, a, b):
    """Return the test that x passes exactly if a * x + b passes a test."""
    if test[0] == "not":
        return "not", sunk_test(test[1], a, b)
    if test[0] == "mod":
        return "mod", test[1], [residue for residue in range(test[1]) if (a * residue + b) % test[1] in test[2]]
    if a < 0:
        return "from" if test[0] == "below" else "below", (test[1] - b) // a + 1
    return test[0], -((b - test[1]) // a)


def rise(kind, parameters, under, below):
    """A scale goes above a node that does not look at items."""
    return [(under, below), (kind, parameters)] if kind in RISING and under == "scale" else None


def early(kind, parameters, under, below):
    """A drop goes below a take."""
    if kind != "drop" or under != "take":
        return None
    return [("take", (max(below[0] - parameters[0], 0),)), (kind, parameters)]


def late(kind, parameters, under, below):
    """A drop goes above a take."""
    if kind != "take" or under != "drop":
        return None
    return [(under, below), ("take", (parameters[0] + below[0],))]


MAKERS = {
    "drops": drops,
    "early": early,
    "keeps": swapped_keeps,
    "late": late,
    "rise": rise,
    "scales": scales,
    "sink": sink,
    "steps": steps,
    "takes": takes,
}


def applied(net, rule, name):
    """Return the net behind a rule."""
    check_rule(rule)
    found = replacement(net, rule, net[name])
    if found is None:
        raise InvalidName(name)
    return replaced(net, name, found)


def replaced(net, name, found):
    """Return the net with other kinds and parameters in the place of a node and its input."""
    below = net[net[name][3][0]]
    nodes = []
    for node in net.node_list():
        if node[0] == name:
            kind, parameters = found[0]
            nodes.append((name, kind, parameters, node[3] if len(found) > 1 else below[3]))
        elif node[0] != below[0]:
            nodes.append(node)
        elif len(found) > 1:
            kind, parameters = found[1]
            nodes.append((below[0], kind, parameters, below[3]))
    return Net(nodes)


def keeps(net, rule, name):
    """Tell whether a rule keeps the results of all outlets, and whether it keeps the reads behind each pull."""
    behind = applied(net, rule, name)
    check_both(net, behind)
    tapes, others = plan_of(net).tapes, plan_of(behind).tapes
    names = outlets(net)
    results = [first_unlike(tapes[outlet], others[outlet], 0) is None for outlet in names]
    sources = [node[0] for node in net.node_list() if node[1] in SOURCES]
    reads = [first_unlike_reads(net, outlet, behind, outlet, (source, source)) is None
             for outlet in names for source in sources]
    return all(results), all(reads)


def normal(net):
    """Return the net to which the rules that make one node of two lead."""
    found = net
    while True:
        places = [(rule, name) for rule in NORMAL for name in sites(found, rule)]
        if not places:
            return found
        rule, name = places[0]
        found = applied(found, rule, name)


def telling_row(one, other, items, most):
    """Return the first row for which two chains have unlike results, and the first such pull; None for no row."""
    check_rows(one, other, items, most)
    for row in rows_of(items, most):
        number = first_unlike(chain_tapes(one, row)[-1], chain_tapes(other, row)[-1], 0)
        if number is not None:
            return row, number
    return None


def telling_reads(one, other, items, most):
    """Return the first row for which two chains have read unlike numbers, and the first such pull; None for no row."""
    check_rows(one, other, items, most)
    for row in rows_of(items, most):
        number = first_unlike_count(chain_reads(one, row), chain_reads(other, row))
        if number is not None:
            return row, number
    return None


def check_rows(one, other, items, most):
    """Raise an error for chains, items, or a greatest length that are not valid, or too many rows."""
    valid = [is_chain(one), is_chain(other), are_different(items), is_between(most, 0, MOST_LENGTH)]
    if False in valid:
        raise InvalidRecord(valid.index(False))
    if rows_up_to(len(items), most) > MOST_ROWS:
        raise LimitExceeded(MOST_ROWS)
    check_chain_net(one)
    check_chain_net(other)


def are_different(value):
    """Tell whether a value is a list of different integers from which rows are made."""
    if not isinstance(value, list) or not 1 <= len(value) <= MOST_ITEMS:
        return False
    if not all([is_parameter(item) for item in value]):
        return False
    return len(set(value)) == len(value)


def rows_up_to(many, most):
    """Return how many rows of so many items there are that are at most so long."""
    found = 0
    longest = 1
    for _ in range(most + 1):
        found += longest
        longest = longest * many
    return found
