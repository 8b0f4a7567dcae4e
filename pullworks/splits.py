"""Splits: what they hold of what one of their ports has read and another one has not."""

from math import gcd

from pullworks.checks import check_number, check_outlet
from pullworks.errors import InvalidCall, InvalidName, InvalidSchedule, LimitExceeded
from pullworks.gauges import Block, Gauge, common_rounds, rounds_to_come_back, tuples_below
from pullworks.lines import least_of
from pullworks.places import ever_place, first_stop, pull_place
from pullworks.plans import plan_of
from pullworks.schedules import check_schedule, check_under, end_state
from pullworks.surveys import Survey
from pullworks.wholes import is_between
from pullworks.words import is_one_of

MOST_ORDERED = 1000


def ports(net, split):
    """Return the uses of a split as inputs: for each the name of the node, and the index of the input."""
    plan = plan_of(net)
    check_split(plan, split)
    return list(plan.users[split])


def check_split(plan, value):
    """Raise InvalidName for a value that is not the name of a split."""
    if not is_one_of(value, tuple([name for name in plan.kinds if plan.kinds[name] == "split"])):
        raise InvalidName(value)


def places(net, steps, split):
    """Return for each port of a split how many results it has been given behind a schedule."""
    check_schedule(net, steps)
    plan = plan_of(net)
    check_split(plan, split)
    if first_stop(plan, steps, pull_place) is not None:
        raise InvalidCall("stuck")
    pulls = plan.pulls_within(end_state(plan, steps).pulls)
    end = plan.tapes[split].stop("end")
    return [least_of([plan.pulls_by(user, place, pulls), end]) for user, place in plan.users[split]]


def greatest_size(net, steps, split):
    """Return the greatest size behind a pull of a schedule, and the number of the first pull behind which it is so."""
    check_schedule(net, steps)
    plan = plan_of(net)
    check_split(plan, split)
    survey = surveyed(Gauge(plan, split), steps, 0, False)
    return survey.best, survey.number


def first_above(net, steps, split, bound):
    """Return the number of the first pull of a schedule behind which the size is above a bound, None for none."""
    check_schedule(net, steps)
    plan = plan_of(net)
    check_split(plan, split)
    check_number(bound, 0, "bound")
    return surveyed(Gauge(plan, split), steps, bound, True).number


def surveyed(gauge, steps, best, only_first):
    """Return a survey that has gone through the steps of a schedule."""
    survey = Survey(gauge, best, only_first)
    survey.go_through(Block(steps, gauge.plan.outlets))
    return survey


def pulls_within(net, steps, split, outlet, bound):
    """Return how often an outlet can be pulled behind a schedule with no size above a bound, None without end."""
    # One more pull passes no limit: the load of a net has the limit of a schedule that is not nested.
    check_schedule(net, steps)
    plan = plan_of(net)
    check_split(plan, split)
    check_outlet(plan, outlet)
    check_number(bound, 0, "bound")
    if first_stop(plan, steps, pull_place) is not None:
        raise InvalidCall("stuck")
    gauge = Gauge(plan, split)
    survey = standing_survey(gauge, end_state(plan, steps), bound)
    if outlet in survey.shut.closed:
        return 0 if survey.size_now() > bound else None
    further = Block([("pull", outlet, 1)], plan.outlets)
    rounds = far_rounds(gauge, further, survey.counts, bound)[0]
    # A field is looked at for sizes above all those before, but the size ahead of the first pull does not matter.
    survey.pull_once(outlet)
    survey.go_rounds(rounds, further)
    if survey.number is not None:
        return survey.number
    return survey.gone if survey.over else None


def standing_survey(gauge, state, bound):
    """Return a survey for the first size above a bound that begins in the state of a machine."""
    survey = Survey(gauge, bound, True)
    for outlet in state.closed:
        survey.shut_outlet(outlet)
    for outlet in gauge.plan.outlets:
        survey.move(outlet, state.pulls[outlet])
    return survey


def far_rounds(gauge, block, counts, more):
    """Return so many rounds that behind them no order changes and no size comes up to `more` any more, and a period."""
    sizes = []
    rounds = 1
    for outlet, each in block.growth.items():
        for course in gauge.courses.get(outlet, []):
            if each > 0 and course is not None:
                last = course.stretches[-1]
                rounds = max(rounds, last.start // each + 1)
                sizes.append(rounds_to_come_back(len(last.lines), each))
        rounds = max(rounds, (gauge.plan.tapes[outlet].stop("never") or 0) + 1)
    period = common_rounds(sizes)
    total = more + 3
    for outlet in gauge.courses:
        pulls = counts[outlet] + block.growth[outlet] * (rounds + 2 * period)
        total += sum(gauge.heights(outlet, least_of([pulls, gauge.plan.tapes[outlet].stop("never")])))
    return rounds + period * total, period


def endless_size(net, steps, split):
    """Tell what becomes of the size behind the rounds if the steps are repeated for ever."""
    check_under(net, steps, 1)
    plan = plan_of(net)
    check_split(plan, split)
    stop = first_stop(plan, steps, ever_place)
    if stop is not None:
        return "never", stop.name
    gauge = Gauge(plan, split)
    block = Block(steps, plan.outlets)
    survey = Survey(gauge, 0, False)
    survey.go_through(block)
    rounds, period = far_rounds(gauge, block, survey.counts, 0)
    growth = growth_behind(survey.looking_on(), rounds, period, block)
    if growth > 0:
        common = gcd(growth, period)
        return "grows", growth // common, period // common
    survey.go_rounds(rounds, block)
    return "most", survey.best


def growth_behind(survey, rounds, period, block):
    """Return by how much the size grows in a period behind so many rounds."""
    if not survey.open_ports:
        return 0
    survey.skip(rounds, block, survey.levels_behind(rounds, block))
    before = survey.size_now()
    survey.skip(period, block, survey.levels_behind(period, block))
    return survey.size_now() - before


def order_size(net, split, order):
    """Return the greatest size behind a pull if outlets are pulled in an order, None if a pull is never answered."""
    plan = plan_of(net)
    check_split(plan, split)
    check_order(plan, order)
    survey = surveyed(Gauge(plan, split), [("pull", outlet, 1) for outlet in order], 0, False)
    return None if survey.over else survey.best


def check_order(plan, order):
    """Raise InvalidSchedule for a value that is not a list of the names of outlets."""
    if not isinstance(order, list) or len(order) > MOST_ORDERED:
        raise InvalidSchedule(-1)
    for at, outlet in enumerate(order):
        if not is_one_of(outlet, tuple(plan.outlets)):
            raise InvalidSchedule(at)


def best_order(net, split, goals):
    """Return the least greatest size over all orders of the goals' pulls, and such an order; None if one never ends."""
    plan = plan_of(net)
    check_split(plan, split)
    check_goals(plan, goals)
    for outlet, many in goals:
        never = plan.tapes[outlet].stop("never")
        if never is not None and never < many:
            return None
    pulled = [goal for goal in goals if goal[1] > 0]
    return way_to(Gauge(plan, split), [outlet for outlet, _ in pulled], tuple([many for _, many in pulled]))


def check_goals(plan, goals):
    """Raise an error for a value that is not a list of goals within the limits."""
    if not isinstance(goals, list):
        raise InvalidSchedule(-1)
    product = 1
    names = list(plan.outlets)
    for at, goal in enumerate(goals):
        if not isinstance(goal, tuple) or len(goal) != 2 or not is_one_of(goal[0], tuple(names)):
            raise InvalidSchedule(at)
        if not is_between(goal[1], 0, MOST_ORDERED):
            raise InvalidSchedule(at)
        names.remove(goal[0])
        product = product * (goal[1] + 1)
    if product > MOST_ORDERED:
        raise LimitExceeded(MOST_ORDERED)


def way_to(gauge, names, goal):
    """Return the least greatest size on a way to so many pulls on the outlets with these names, and the way.

    The size depends on the numbers of pulls alone. So the best way to some numbers leads over the best way to those
    with one pull less; these come earlier in the order of the tuples.
    """
    start = tuple([0 for _ in names])
    best = {start: (0, None)}
    levels = [levels_up_to(gauge, name, many) for name, many in zip(names, goal)]
    for counts in tuples_below([many + 1 for many in goal])[1:]:
        size = size_of([row[count] for row, count in zip(levels, counts)], len(gauge.ports))
        found = []
        for at, count in enumerate(counts):
            if count > 0:
                before = counts[:at] + (count - 1,) + counts[at + 1:]
                found.append((max(size, best[before][0]), at))
        best[counts] = min(found)
    order = []
    counts = goal
    while counts != start:
        at = best[counts][1]
        order.append(names[at])
        counts = counts[:at] + (counts[at] - 1,) + counts[at + 1:]
    return best[goal][0], order[::-1]


def levels_up_to(gauge, outlet, many):
    """Return what each port has been given behind 0, 1, 2 and so on up to so many pulls on an outlet."""
    if outlet not in gauge.courses:
        return [[0] * len(gauge.ports)] * (many + 1)
    return [gauge.heights(outlet, pulls) for pulls in range(many + 1)]


def size_of(levels, many):
    """Return the size of a split with so many ports, nothing closed, for the levels that some outlets have brought."""
    given = [max([row[at] for row in levels]) for at in range(many)]
    return max(given) - min(given)
