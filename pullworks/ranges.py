"""Ranges of a missing parameter: values with which a node does the same in a record, or contradicts it.

A record can only be had with values in one of the ranges that are returned for it. In each range, as far as the
parameter goes, a node does the same in the record whichever value it takes.
"""

from pullworks.kinds import MOST_SUMMED, PARAMETERS, RANGES, are_parameters
from pullworks.words import is_one_of

NUMBERED = ("take", "drop", "step", "batch", "stutter", "ahead", "fault")

TESTED = ("keep", "until", "after")

# Beyond the bounds of all parameters.
ANY_LOW = -10 ** 31
ANY_HIGH = 10 ** 31


def hole_range(kind, value):
    """Return the least and the greatest value of the one missing parameter, None if there is no such one."""
    if not isinstance(value, tuple) or len(value) != len(PARAMETERS[kind]):
        return None
    for at, part in enumerate(value):
        sort = sort_of_hole(kind, at, part)
        if sort is None:
            continue
        low, high = RANGES[sort]
        stand_in = (part[0], low) if kind in TESTED else low
        if not are_parameters(kind, value[:at] + (stand_in,) + value[at + 1:]):
            return None
        return low, MOST_SUMMED if kind == "batch" and value[1] == "sum" else high
    return None


def sort_of_hole(kind, at, part):
    """Return the sort of a parameter that is missing, None if it is there, or may not be missing."""
    if kind in TESTED:
        if not isinstance(part, tuple) or len(part) != 2 or part[1] is not None:
            return None
        return "integer" if is_one_of(part[0], ("below", "from")) else None
    if part is not None or kind != "scale" and (kind not in NUMBERED or at > 0):
        return None
    return PARAMETERS[kind][at]


def fitting_ranges(kind, parameters, record):
    """Return a list of ranges (least, greatest) for a record."""
    if kind in TESTED:
        return [bound_range(kind, parameters[0][0], record)]
    if kind == "scale":
        return scale_ranges(parameters, record)
    make = MAKERS[kind]
    return make(parameters, record)


def is_item(result):
    """Tell whether a result is an item."""
    return result[0] == "item"


def items_in(results):
    """Return the items among results."""
    return [result[1] for result in results if is_item(result)]


def items_got(record):
    """Return how many items the node got in the entries of a record."""
    return sum([len(items_in(got)) for got, _ in record])


def giving(record):
    """Return the indexes of the entries in which an item was given."""
    return [at for at, (_, result) in enumerate(record) if is_item(result)]


def up_to_end(record):
    """Return the number of entries up to the first end that was given, it included, or of all entries."""
    ends = [at for at, (_, result) in enumerate(record) if result[0] == "end"]
    return ends[0] + 1 if ends else len(record)


def take_ranges(parameters, record):
    """A take has given no more items than it may, and at the end perhaps just as many."""
    many = len(giving(record[:up_to_end(record)]))
    return [(many, many), (many + 1, ANY_HIGH)]


def drop_ranges(parameters, record):
    """A drop has lost all items ahead of the first one that it gave."""
    found = giving(record)
    if not found:
        return [(items_got(record), ANY_HIGH)]
    many = items_got(record[:found[0] + 1]) - 1
    return [(many, many)]


def step_ranges(parameters, record):
    """A step has given the first item, and then one for so many."""
    found = giving(record)
    if not found:
        return [(1, ANY_HIGH)]
    if len(found) == 1:
        return [(items_got(record[found[0] + 1:]) + 1, ANY_HIGH)]
    many = items_got(record[found[0] + 1:found[1] + 1])
    return [(many, many)]


def batch_ranges(parameters, record):
    """A batch has given what became of its first items, or it was not full."""
    found = giving(record)
    if not found:
        return [(items_got(record) + 1, ANY_HIGH)]
    many = items_got(record[:found[0] + 1])
    if "end" in [result[0] for result in record[found[0]][0]]:
        return [(many + 1, ANY_HIGH)]
    return [(many, many)]


def fault_ranges(parameters, record):
    """A fault has raised its word in a pull in which it got nothing, or it has not come to the pull with its number."""
    for at, (got, result) in enumerate(record):
        if not got and result == ("error", parameters[1]):
            return [(at, at)]
    return [(up_to_end(record), ANY_HIGH)]


def stutter_ranges(parameters, record):
    """Each number of times on its own."""
    return [(many, many) for many in range(1, 51)]


def ahead_ranges(parameters, record):
    """Each number of results that are held on its own."""
    return [(many, many) for many in range(21)]


def scale_ranges(parameters, record):
    """A scale has given a * x + b for one item after another."""
    a, b = parameters
    for got, result in record:
        items = items_in(got)
        if not is_item(result) or len(items) != 1:
            continue
        if b is None:
            return [(result[1] - a * items[0], result[1] - a * items[0])]
        if items[0] != 0:
            worth, rest = divmod(result[1] - b, items[0])
            return [] if rest else [(worth, worth)]
    return [(ANY_LOW, ANY_HIGH)]


def bound_range(kind, word, record):
    """Return the range of a bound with which some items pass, and others do not."""
    passing, failing = sorted_out(kind, record)
    if word == "from":
        # x >= v just where x < v does not hold.
        passing, failing = failing, passing
    low = max([ANY_LOW] + [item + 1 for item in passing])
    high = min([ANY_HIGH] + failing)
    return low, high


def sorted_out(kind, record):
    """Return the items that have passed, and those that have not."""
    passing = []
    failing = []
    for got, result in record:
        items = items_in(got)
        if kind == "until":
            target = passing if is_item(result) else failing
            target.extend(items)
        elif kind == "keep":
            failing.extend(items[:-1] if is_item(result) else items)
            passing.extend(items[-1:] if is_item(result) else [])
        elif is_item(result):
            passing.extend(items[:-1])
            failing.extend(items[-1:])
            return passing, failing
        else:
            passing.extend(items)
    return passing, failing


MAKERS = {
    "take": take_ranges,
    "drop": drop_ranges,
    "step": step_ranges,
    "batch": batch_ranges,
    "stutter": stutter_ranges,
    "ahead": ahead_ranges,
    "fault": fault_ranges,
}
