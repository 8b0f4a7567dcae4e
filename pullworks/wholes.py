"""Integers."""


def is_integer(value):
    """Tell whether a value is an int and neither True nor False."""
    return isinstance(value, int) and not isinstance(value, bool)


def is_between(value, low, high):
    """Tell whether a value is an integer from low to high."""
    return is_integer(value) and low <= value <= high


def is_parameter(value):
    """Tell whether a value is an integer that may be a parameter of a node."""
    return is_between(value, -10 ** 30, 10 ** 30)


def power(base, exponent):
    """Return base to an exponent from 0."""
    result = 1
    for _ in range(exponent):
        result = result * base
    return result
