"""Tests of items: which tuples are tests, and which items pass them."""

from pullworks.errors import InvalidBound, InvalidTest
from pullworks.wholes import is_between, is_integer, is_parameter
from pullworks.words import is_one_of

MOST_NOTS = 3


def passes(test, item):
    """Tell whether an item passes a test."""
    if not is_test(test):
        raise InvalidTest(test)
    if not is_integer(item):
        raise InvalidBound("item")
    return holds(test, item)


def holds(test, item):
    """Tell whether an integer passes what is known to be a test."""
    word = test[0]
    if word == "not":
        return not holds(test[1], item)
    if word == "below":
        return item < test[1]
    if word == "from":
        return item >= test[1]
    return item % test[1] in test[2]


def is_test(value):
    """Tell whether a value is a test."""
    inner = value
    # Not more steps than "not" may be nested: a value may nest without end.
    for _ in range(MOST_NOTS):
        if not is_negation(inner):
            break
        inner = inner[1]
    return is_plain_test(inner)


def is_negation(value):
    """Tell whether a value is a pair of "not" and anything."""
    return isinstance(value, tuple) and len(value) == 2 and is_one_of(value[0], ("not",))


def is_plain_test(value):
    """Tell whether a value is a test without "not"."""
    if not isinstance(value, tuple):
        return False
    if len(value) == 2:
        return is_one_of(value[0], ("below", "from")) and is_parameter(value[1])
    if len(value) == 3:
        return is_one_of(value[0], ("mod",)) and is_between(value[1], 1, 100) and are_residues(value[2], value[1])
    return False


def are_residues(value, modulus):
    """Tell whether a value is an ascending list of residues of a modulus."""
    if not isinstance(value, list):
        return False
    if not all([is_between(residue, 0, modulus - 1) for residue in value]):
        return False
    return all([one < other for one, other in zip(value, value[1:])])


def modulus_of(test):
    """Return the modulus in what is known to be a test, 1 if it has none."""
    if test[0] == "not":
        return modulus_of(test[1])
    if test[0] == "mod":
        return test[1]
    return 1


def bound_of(test):
    """Return the bound in what is known to be a test, None if it has none."""
    if test[0] == "not":
        return bound_of(test[1])
    if test[0] == "mod":
        return None
    return test[1]
