"""Linear programs of a few variables: where a form is least within a box and some rows.

A form is a list of factors, one for each variable. A row is a list of a number and such factors: it stands for all
points at which the number and the products with the factors are together not negative. A box is a list of pairs (low,
high), one for each variable. A point is a pair (whole, parts): its coordinates are the parts, each divided by the
whole, which is positive. A point of integers is a list of these.
"""

from math import gcd

from pullworks.lattices import units


def least_point(form, box, rows):
    """Return a point of a box and within all rows at which a form is least, None if there is no such point."""
    point = 1, [low if factor >= 0 else high for factor, (low, high) in zip(form, box)]
    for at, row in enumerate(rows):
        # Where a point is not within one more row, the form is least on the border of this row.
        if height(row, point) < 0:
            point = border_point(form, box, rows[:at], row)
            if point is None:
                return None
    return point


def height(row, point):
    """Return what a row comes to at a point, times the whole of the point."""
    whole, parts = point
    return row[0] * whole + sum([factor * part for factor, part in zip(row[1:], parts)])


def border_point(form, box, rows, border):
    """Return a point of a box, within all rows and on the border of one more row, at which a form is least."""
    pivot = least_factor(border)
    if pivot is None:
        return None
    edges = sides(box)[2 * pivot - 2:2 * pivot]
    lower = [without(row, border, pivot) for row in edges + rows]
    found = least_point(without([0] + form, border, pivot)[1:], box[:pivot - 1] + box[pivot:], lower)
    if found is None:
        return None
    rest = height(border[:pivot] + border[pivot + 1:], found)
    parts = [part * abs(border[pivot]) for part in found[1]]
    parts.insert(pivot - 1, -rest if border[pivot] > 0 else rest)
    return in_lowest_terms(found[0] * abs(border[pivot]), parts)


def least_factor(row):
    """Return the place of the factor of a row that is nearest to zero, but not zero; None if all are."""
    places = [at for at in range(1, len(row)) if row[at] != 0]
    return min(places, key=lambda at: abs(row[at]), default=None)


def without(row, border, pivot):
    """Return what a row is on the border of another one, where the variable at a place follows from the others."""
    times = abs(border[pivot])
    taken = row[pivot] if border[pivot] > 0 else -row[pivot]
    found = [factor * times - other * taken for factor, other in zip(row, border)]
    found = found[:pivot] + found[pivot + 1:]
    common = greatest_divisor(found)
    return [factor // common for factor in found] if common > 1 else found


def greatest_divisor(numbers):
    """Return the greatest common divisor of some numbers."""
    common = 0
    for number in numbers:
        common = gcd(common, number)
        if common == 1:
            return 1
    return common


def in_lowest_terms(whole, parts):
    """Return a point with the least whole."""
    common = greatest_divisor([whole] + parts)
    return whole // common, [part // common for part in parts]


def opposite(form):
    """Return a form that is least where another one is greatest."""
    return [-factor for factor in form]


def sides(box):
    """Return the rows that stand for a box, two for each variable."""
    found = []
    for unit, (low, high) in zip(units(len(box)), box):
        found.append([-low] + unit)
        found.append([high] + opposite(unit))
    return found


def reach(form, box):
    """Return the least and the greatest number that a form comes to in a box."""
    low = sum([factor * (low if factor > 0 else high) for factor, (low, high) in zip(form, box)])
    high = sum([factor * (high if factor > 0 else low) for factor, (low, high) in zip(form, box)])
    return low, high


def peak(row, box):
    """Return the greatest number that a row comes to in a box."""
    return row[0] + reach(row[1:], box)[1]
