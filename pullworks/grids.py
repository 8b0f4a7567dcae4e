"""Points of integers within a box and some rows (see programs.py): whether there are any, and which one is the first.

A body, that is all points within a box and rows, is thin in some direction of whole steps if it has no point of
integers. So a body is turned until it is about thinnest in the direction of a variable. Then it is cut into slices with
a variable less: either there are few of them, or one in the midst has such a point.
"""

from math import lcm

from pullworks.lattices import combined, dot, normal, shortened, units
from pullworks.programs import height, least_point, opposite, peak, reach, sides

# A body that is wider than so many slices in the directions of all variables is turned first.
MOST_SLICES = 4


def any_point(box, rows):
    """Return a point of integers within a box and all rows, None if there is none."""
    if any([low > high for low, high in box]):
        return None
    return point_within(box, rows, False)


def point_within(box, rows, is_turned):
    """Return such a point; a body that has been turned is not turned once more."""
    if not box:
        return [] if all([row[0] >= 0 for row in rows]) else None
    found = tightened(box, rows)
    if found is None:
        return None
    tight, ends = found
    point = middle_of(ends)
    if fits(point, tight, rows):
        return point
    widths = [high - low for low, high in tight]
    at = widths.index(min(widths))
    if widths[at] >= MOST_SLICES and not is_turned:
        return turned_point(tight, rows)
    for away in range(widths[at] + 1):
        level = level_at(tight[at], away)
        point = point_within(tight[:at] + tight[at + 1:], sliced(rows, at, level), False)
        if point is not None:
            return point[:at] + [level] + point[at:]
    return None


def tightened(box, rows):
    """Return a box as narrow as the points of integers let it be seen, and points at its ends; None if it is empty."""
    tight = list(box)
    ends = []
    for at, form in enumerate(units(len(box))):
        low = least_point(form, tight, rows)
        if low is None:
            return None
        high = least_point(opposite(form), tight, rows)
        ends.extend([low, high])
        tight[at] = (-(-low[1][at] // low[0]), high[1][at] // high[0])
        if tight[at][0] > tight[at][1]:
            return None
    return tight, ends


def middle_of(ends):
    """Return the point of integers that is nearest to the middle of some points."""
    common = 1
    for whole, _ in ends:
        common = lcm(common, whole)
    found = []
    for at in range(len(ends[0][1])):
        total = sum([parts[at] * (common // whole) for whole, parts in ends])
        found.append((2 * total + common * len(ends)) // (2 * common * len(ends)))
    return found


def fits(point, box, rows):
    """Tell whether a point of integers is within a box and all rows."""
    inside = all([low <= part <= high for part, (low, high) in zip(point, box)])
    return inside and least_at(point, rows) >= 0


def least_at(point, rows):
    """Return what the least of some rows comes to at a point of integers."""
    return min([height(row, (1, point)) for row in rows], default=0)


def level_at(ends, away):
    """Return the integer at a place if those from a low to a high end are told from the middle outward."""
    middle = (ends[0] + ends[1]) // 2
    return middle + (away + 1) // 2 if away % 2 == 1 else middle - away // 2


def sliced(rows, at, level):
    """Return the rows for the points at which a variable has a value."""
    return [[row[0] + row[at + 1] * level] + row[1:at + 1] + row[at + 2:] for row in rows]


def turned_point(box, rows):
    """Return a point of integers of a body that is wide in the direction of each variable, None if there is none."""
    spans = spans_of(box, rows)
    forms, backs = shortened([[span[at] for span in spans] for at in range(len(box))])
    turned = [[row[0]] + [dot(row[1:], back) for back in backs] for row in rows + sides(box)]
    point = point_within([reach(form, box) for form in forms], turned, True)
    if point is None:
        return None
    found = [0] * len(box)
    for times, back in zip(point, backs):
        found = combined(found, back, -times)
    return found


def spans_of(box, rows):
    """Return as many vectors as there are variables, no two in one plane, that a body is about as long as.

    Where the body has no length, a vector that is short beside all others stands for its direction.
    """
    base = None
    spans = []
    flat = 1
    for _ in box:
        form = normal([parts for _, parts in spans], len(box))
        ends = least_point(form, box, rows), least_point(opposite(form), box, rows)
        base = ends[0] if base is None else base
        span = longer(form, between(base, ends[0]), between(base, ends[1]))
        if dot(form, span[1]) == 0:
            span = (0, form)
            flat += dot(form, form)
        spans.append(span)
    common = 1
    for whole, _ in spans:
        common = lcm(common, max(whole, 1))
    found = []
    for whole, parts in spans:
        times = 1 if whole == 0 else 4 * flat * common // whole
        found.append([part * times for part in parts])
    return found


def between(one, other):
    """Return the vector from a point to another one, as such a point."""
    whole = lcm(one[0], other[0])
    return whole, [high * (whole // other[0]) - low * (whole // one[0]) for low, high in zip(one[1], other[1])]


def longer(form, one, other):
    """Return that one of two vectors along which a form changes more."""
    return one if abs(dot(form, one[1])) * other[0] > abs(dot(form, other[1])) * one[0] else other


def first_point(box, rows):
    """Return the first point of integers within a box and all rows, by the order of lists; None if there is none."""
    if not box:
        return any_point(box, rows)
    found = least_point(units(len(box))[0], box, rows)
    if found is None:
        return None
    low = -(-found[1][0] // found[0])
    rest = first_rest(low, box, rows)
    if rest is not None:
        return [low] + rest
    point = any_point([(low + 1, box[0][1])] + box[1:], rows)
    if point is None:
        return None
    first = first_level(low, point[0], box, rows)
    return [first] + first_rest(first, box, rows)


def first_rest(level, box, rows):
    """Return what follows a value of the first variable in the first point that begins with it, None if none does."""
    return first_point(box[1:], sliced(rows, 0, level)) if level <= box[0][1] else None


def first_level(low, high, box, rows):
    """Return the least value, above a low one, with which a point of integers begins; with a high one there is such."""
    step = 1
    while high - low > 1:
        middle = low + min(step, (high - low) // 2)
        point = any_point([(low + 1, middle)] + box[1:], rows)
        if point is None:
            low = middle
            step = step * 2
        else:
            high = point[0]
    return high


def settled(box, rows):
    """Return a box and rows the least of which comes to the same greatest number, without what does not matter."""
    kept = []
    for row in rows:
        if not any([is_under(other, row, box) for other in kept]):
            kept = [other for other in kept if not is_under(row, other, box)] + [row]
    left = list(box)
    for at in range(len(box) - 1, -1, -1):
        factors = [row[at + 1] for row in kept]
        if min(factors) >= 0 or max(factors) <= 0:
            kept = sliced(kept, at, box[at][1] if min(factors) >= 0 else box[at][0])
            left = left[:at] + left[at + 1:]
    return left, kept


def is_under(one, other, box):
    """Tell whether a row comes nowhere in a box to more than another one."""
    return peak([a - b for a, b in zip(one, other)], box) <= 0


def lowered(rows, level):
    """Return rows less a number."""
    return [[row[0] - level] + row[1:] for row in rows]


def ceiling(box, rows, best):
    """Return an integer that the least of some rows is nowhere in a box above, and a number that it does come to.

    Both are at least the best number so far; they are this one if the least of the rows is nowhere above it.
    """
    most = min([peak(row, box) for row in rows])
    if most <= best:
        return best, best
    # The least of the rows is as great as may be where one more variable is, as long as it is not above any of them.
    point = least_point([-1] + [0] * len(box), [(best + 1, most)] + box, [[row[0], -1] + row[1:] for row in rows])
    if point is None:
        return best, best
    return point[1][0] // point[0], max(best, least_near(point, box, rows))


def least_near(point, box, rows):
    """Return the greatest number to which the least of some rows comes right beside a point with one more variable."""
    corners = [[]]
    for part, (low, high) in zip(point[1][1:], box):
        levels = (max(low, part // point[0]), min(high, -(-part // point[0])))
        corners = [corner + [level] for corner in corners for level in levels]
    return max([least_at(corner, rows) for corner in corners])


def greatest_least(box, rows, best, top):
    """Return the greatest number, up to a top, to which the least of some rows comes at a point of integers in a box.

    It returns the best number so far if there is none above this.
    """
    high = top + 1
    level = best + 1
    step = 1
    while high - best > 1:
        point = any_point(box, lowered(rows, level))
        if point is None:
            high = level
            step = step * 2
        else:
            best = least_at(point, rows)
        # The greatest number is mostly near to the top.
        level = high - min(step, (high - best) // 2)
    return best
