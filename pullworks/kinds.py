"""The kinds of nodes: their parameters, their inputs, and their weights."""

from pullworks.conditions import is_test, modulus_of
from pullworks.wholes import is_between, is_parameter
from pullworks.words import is_name, is_one_of

# For each kind the sorts of its parameters: the words of the tables below, "test" and "name".
PARAMETERS = {
    "count": ("integer", "integer"),
    "span": ("integer", "integer", "from 0"),
    "ring": ("some integers",),
    "row": ("integers",),
    "scale": ("integer", "integer"),
    "table": ("some integers",),
    "keep": ("test",),
    "until": ("test",),
    "after": ("test",),
    "take": ("from 0",),
    "drop": ("from 0",),
    "step": ("from 1",),
    "batch": ("from 1", "batch how", "batch rest"),
    "pairs": (),
    "heads": (),
    "lengths": (),
    "stutter": ("1 to 50",),
    "ahead": ("0 to 20",),
    "fault": ("from 0", "name"),
    "dying": (),
    "calm": ("calm word",),
    "closing": ("name",),
    "split": (),
    "chain": (),
    "zip": ("zip how",),
    "longest": ("integer", "zip how"),
    "turns": (),
    "choose": (),
}

RANGES = {
    "integer": (-10 ** 30, 10 ** 30),
    "from 0": (0, 10 ** 30),
    "from 1": (1, 10 ** 30),
    "1 to 50": (1, 50),
    "0 to 20": (0, 20),
}

LENGTHS = {
    "integers": (0, 100),
    "some integers": (1, 100),
}

CHOICES = {
    "batch how": ("first", "last", "many", "sum"),
    "batch rest": ("give", "lose"),
    "calm word": ("stop", "skip"),
    "zip how": ("first", "last", "sum"),
}

SOURCES = ("count", "span", "ring", "row")

JOINS = ("chain", "zip", "longest", "turns", "choose")

LOOPS = ("keep", "after", "drop", "step", "batch", "heads", "lengths")

MOST_INPUTS = 10

MOST_SUMMED = 50


def is_node(value):
    """Tell whether a value is a node with right parameters and a right number of names as inputs."""
    if not isinstance(value, tuple) or len(value) != 4:
        return False
    name, kind, parameters, inputs = value
    if not is_name(name) or not is_kind(kind):
        return False
    return are_parameters(kind, parameters) and are_inputs(kind, inputs)


def is_kind(value):
    """Tell whether a value is the word for a kind of node."""
    return isinstance(value, str) and value in PARAMETERS


def are_parameters(kind, value):
    """Tell whether a value is a tuple of right parameters for a kind."""
    sorts = PARAMETERS[kind]
    if not isinstance(value, tuple) or len(value) != len(sorts):
        return False
    if not all([is_of_sort(sort, part) for sort, part in zip(sorts, value)]):
        return False
    return kind != "batch" or value[1] != "sum" or value[0] <= MOST_SUMMED


def is_of_sort(sort, value):
    """Tell whether a value is a parameter of a sort."""
    if sort in RANGES:
        low, high = RANGES[sort]
        return is_between(value, low, high)
    if sort in LENGTHS:
        least, most = LENGTHS[sort]
        return are_integers(value, least, most)
    if sort in CHOICES:
        return is_one_of(value, CHOICES[sort])
    if sort == "test":
        return is_test(value)
    return is_name(value)


def are_integers(value, least, most):
    """Tell whether a value is a list of such a length of integers that may be parameters."""
    if not isinstance(value, list) or not least <= len(value) <= most:
        return False
    return all([is_parameter(part) for part in value])


def are_inputs(kind, value):
    """Tell whether a value is a list of names, as many as a kind has inputs."""
    least, most = input_range(kind)
    if not isinstance(value, list) or not least <= len(value) <= most:
        return False
    return all([is_name(part) for part in value])


def input_range(kind):
    """Return the least and the greatest number of inputs of a kind."""
    if kind in SOURCES:
        return 0, 0
    if kind == "choose":
        return 2, MOST_INPUTS
    if kind in JOINS:
        return 1, MOST_INPUTS
    return 1, 1


def own_weight(node):
    """Return the factor that a node brings into the weight of its net."""
    _, kind, parameters, inputs = node
    if kind in ("ring", "table"):
        return len(parameters[0])
    if kind in ("keep", "until", "after"):
        return modulus_of(parameters[0])
    if kind == "stutter":
        return parameters[0]
    if kind == "batch" and parameters[1] == "sum":
        return parameters[0]
    if kind == "turns":
        return len(inputs)
    if kind == "choose":
        return len(inputs) - 1
    return 1
