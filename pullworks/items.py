"""The items of an outlet that is pulled alone, from the beginning, again and again; errors are passed over."""

from pullworks.checks import check_number, check_outlet
from pullworks.conditions import is_test, modulus_of
from pullworks.errors import InvalidBound, InvalidTest, LimitExceeded
from pullworks.lines import first_passing_at, greatest_among, least_of, less, passing_among, seen_from, value_at
from pullworks.nets import weight
from pullworks.plans import plan_of
from pullworks.wholes import is_between

MOST_SEEN = 1000
MOST_TESTED = 5000


def item_at(net, outlet, index):
    """Return ("item", x) with the item that has a number, or why there is none."""
    tape = outlet_tape(net, outlet)
    check_number(index, 0, "index")
    pull = tape.pull_of_item(index)
    if pull is None:
        return tape.stretches[-1].result(0)
    return tape.result(pull)


def item_count(net, outlet):
    """Return how many items there are, and why there are no more."""
    tape = outlet_tape(net, outlet)
    last = tape.stretches[-1]
    if last.what == "item":
        return None, ("endless",)
    return last.items_before, last.result(0)


def first_passing(net, outlet, test, start):
    """Return the number and the item of the first one, from a number on, that passes a test, None if there is none."""
    tape = outlet_tape(net, outlet)
    check_test(test)
    check_number(start, 0, "start")
    check_weight(net, test)
    for first, many, lines in item_stretches(tape, start, None):
        at = first_passing_at(many, lines, test)
        if at is not None:
            return first + at, value_at(lines, at)
    return None


def count_passing(net, outlet, test, many):
    """Return how many of so many first items pass a test, and how many these are."""
    tape = outlet_tape(net, outlet)
    check_test(test)
    check_number(many, 0, "many")
    check_weight(net, test)
    passed = 0
    seen = 0
    for _, number, lines in item_stretches(tape, 0, many):
        passed += passing_among(number, lines, test)
        seen += number
    return passed, seen


def window(net, outlet, first, many):
    """Return at most so many items from a number on."""
    tape = outlet_tape(net, outlet)
    check_number(first, 0, "first")
    if not is_between(many, 0, MOST_SEEN):
        raise InvalidBound("many")
    found = []
    for _, number, lines in item_stretches(tape, first, first + many):
        for rounds in range((number + len(lines) - 1) // len(lines)):
            left = number - rounds * len(lines)
            found.extend([value + rounds * growth for value, growth in lines[:left]])
    return found


def greatest_item(net, outlet, many):
    """Return the greatest of so many first items, and the number of the first one that is so great."""
    tape = outlet_tape(net, outlet)
    check_number(many, 0, "many")
    return greatest_of(item_stretches(tape, 0, many))


def greatest_of(stretches):
    """Return the greatest item of stretches (number of the first item, many, lines), and its number, or None."""
    best = None
    for first, many, lines in stretches:
        item, at = greatest_among(many, lines)
        if best is None or item > best[0]:
            best = (item, first + at)
    return best


def item_stretches(tape, first, behind):
    """Return the items from one number up to another, or to no end, as (number of the first item, many, lines)."""
    found = []
    for stretch in tape.stretches:
        if stretch.what != "item":
            continue
        skipped = max(first - stretch.items_before, 0)
        stop = least_of([stretch.many, less(behind, stretch.items_before)])
        if stop is None or stop > skipped:
            many = less(stop, skipped)
            found.append((stretch.items_before + skipped, many, seen_from(stretch.lines, skipped, many)))
    return found


def outlet_tape(net, outlet):
    """Return the tape of an outlet, or raise InvalidName."""
    plan = plan_of(net)
    check_outlet(plan, outlet)
    return plan.tapes[outlet]


def check_test(value):
    """Raise InvalidTest for a value that is not a test."""
    if not is_test(value):
        raise InvalidTest(value)


def check_weight(net, test):
    """Raise LimitExceeded if a test is too heavy for a net."""
    if weight(net) * modulus_of(test) > MOST_TESTED:
        raise LimitExceeded(MOST_TESTED)
