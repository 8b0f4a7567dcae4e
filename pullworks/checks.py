"""Checks of arguments that several files share."""

from pullworks.errors import InvalidBound, InvalidName
from pullworks.wholes import is_between
from pullworks.words import is_one_of

FAR = 10 ** 30


def check_outlet(plan, value):
    """Raise InvalidName for a value that is not the name of an outlet."""
    if not is_one_of(value, tuple(plan.outlets)):
        raise InvalidName(value)


def check_number(value, least, part):
    """Raise InvalidBound with the name of an argument that is not an integer from the least one to 10 ** 30."""
    if not is_between(value, least, FAR):
        raise InvalidBound(part)
