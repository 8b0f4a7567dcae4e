"""What an outlet needs that is pulled alone, from the beginning: the reads of its sources, and what they serve."""

from pullworks.checks import check_number
from pullworks.courses import read_course
from pullworks.errors import InvalidBound, InvalidName
from pullworks.items import greatest_of, item_stretches, outlet_tape
from pullworks.nets import sources_of
from pullworks.plans import plan_of
from pullworks.singles import pairs
from pullworks.tapes import Tape
from pullworks.wholes import is_integer
from pullworks.words import is_one_of


def needed(net, outlet, items):
    """Return the reads of each source when an outlet has given so many items, None if it never gives so many."""
    tape = outlet_tape(net, outlet)
    check_number(items, 0, "items")
    last = -1 if items == 0 else tape.pull_of_item(items - 1)
    return None if last is None else reads_behind(net, outlet, last + 1)


def spent(net, outlet, first, after):
    """Return the reads of each source in the pulls from one number up to another, None if one has no answer."""
    tape = outlet_tape(net, outlet)
    check_number(first, 0, "first")
    if not is_integer(after) or after < first:
        raise InvalidBound("after")
    never = tape.stop("never")
    if never is not None and never < after:
        return None
    before = reads_behind(net, outlet, first)
    behind = reads_behind(net, outlet, after)
    return [(source, high - low) for (source, high), (_, low) in zip(behind, before)]


def reads_behind(net, outlet, pulls):
    """Return the reads of each source behind so many pulls."""
    plan = plan_of(net)
    found = plan.pulls_within({outlet: pulls})
    return [(source, plan.tapes[source].used(0, found[source])) for source in sources_of(net, outlet)]


def items_ahead(net, outlet, source, number):
    """Return how many items are given ahead of the pull with a read, None if no pull that is answered makes it."""
    tape = outlet_tape(net, outlet)
    check_source(net, outlet, source)
    check_number(number, 0, "number")
    pull = answered_pull(net, outlet, source, number)
    return None if pull is None else tape.items_in(pull)


def served(net, outlet, source, number):
    """Return the number of the first item that is given by the pull with a read or a later one, None for none."""
    tape = outlet_tape(net, outlet)
    check_source(net, outlet, source)
    check_number(number, 0, "number")
    pull = answered_pull(net, outlet, source, number)
    if pull is None:
        return None
    item = tape.items_in(pull)
    return None if tape.pull_of_item(item) is None else item


def dearest(net, outlet, source, pulls):
    """Return the greatest number of reads of a source in one of so many pulls, and the first pull with so many."""
    tape = outlet_tape(net, outlet)
    check_source(net, outlet, source)
    check_number(pulls, 1, "pulls")
    never = tape.stop("never")
    many = pulls if never is None else min(pulls, never)
    if many == 0:
        return None
    course = read_course(net, outlet, source, many)
    first = course.stretches[0].lines[0][0]
    steps = Tape()
    pairs(None, course, steps)
    steps.settle()
    best = greatest_of(item_stretches(steps, 0, None))
    if best is None or best[0] <= first:
        return first, 0
    return best[0], best[1] + 1


def answered_pull(net, outlet, source, number):
    """Return the pull on an outlet in which a read is made, None if there is none or it is never answered."""
    plan = plan_of(net)
    read = plan.tapes[source].pull_using(0, number)
    pull = None if read is None else pull_above(plan, source, read, outlet)
    if pull is None or plan.tapes[outlet].stop("never") == pull:
        return None
    return pull


def pull_above(plan, name, pull, outlet):
    """Return the first pull on an outlet in which the pull with a number on a node is made, None if there is none."""
    if name == outlet:
        return pull
    found = []
    for user, place in plan.users[name]:
        above = plan.tapes[user].pull_using(place, pull)
        if above is not None:
            found.append(pull_above(plan, user, above, outlet))
    return min([number for number in found if number is not None], default=None)


def check_source(net, outlet, source):
    """Raise InvalidName for a value that is not the name of a source from which an outlet reads."""
    if not is_one_of(source, tuple(sources_of(net, outlet))):
        raise InvalidName(source)
