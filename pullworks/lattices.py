"""Vectors of a few dimensions, and the bases of whole steps in which a long and thin body is neither long nor thin."""


def dot(one, other):
    """Return the product of two vectors."""
    return sum([a * b for a, b in zip(one, other)])


def combined(one, other, times):
    """Return a vector from which another one is taken away so many times."""
    return [a - times * b for a, b in zip(one, other)]


def units(size):
    """Return the unit vectors of so many dimensions."""
    return [[1 if at == place else 0 for at in range(size)] for place in range(size)]


def determinant(rows):
    """Return the determinant of a square matrix of a few rows."""
    if not rows:
        return 1
    total = 0
    for at, factor in enumerate(rows[0]):
        if factor != 0:
            part = factor * determinant([row[:at] + row[at + 1:] for row in rows[1:]])
            total = total + (part if at % 2 == 0 else -part)
    return total


def normal(vectors, size):
    """Return a vector at right angles to fewer than `size` vectors of so many dimensions, 0 only if they depend."""
    if len(vectors) == size - 1:
        minors = [determinant([row[:at] + row[at + 1:] for row in vectors]) for at in range(size)]
        return [minor if at % 2 == 0 else -minor for at, minor in enumerate(minors)]
    for unit in units(size):
        found = normal(vectors + [unit], size)
        if any(found):
            return found
    return [0] * size


def shortened(vectors):
    """Return the whole steps by which independent vectors are made short, and the steps back.

    Short vector number k is the sum of the vectors, each as often as row k of the steps says, and vector number k is
    the sum of the short ones, each as often as item k of the rows of the steps back says. No sum of whole steps is much
    shorter than the first one.
    """
    rows = list(vectors)
    steps = units(len(rows))
    backs = units(len(rows))
    at = 1
    while at < len(rows):
        for lower in range(at - 1, -1, -1):
            head = rows[:lower]
            times = nearest(mixed(head, rows[lower], rows[at]), mixed(head, rows[lower], rows[lower]))
            rows[at] = combined(rows[at], rows[lower], times)
            steps[at] = combined(steps[at], steps[lower], times)
            backs[lower] = combined(backs[lower], backs[at], -times)
        # But for what they share with those before both, a vector that is much shorter than another one comes first.
        head = rows[:at - 1]
        if 4 * mixed(head, rows[at], rows[at]) < 3 * mixed(head, rows[at - 1], rows[at - 1]):
            rows = exchanged(rows, at)
            steps = exchanged(steps, at)
            backs = exchanged(backs, at)
            at = max(at - 1, 1)
        else:
            at += 1
    return steps, backs


def exchanged(rows, at):
    """Return rows in which one and the one before it have changed places."""
    return rows[:at - 1] + [rows[at], rows[at - 1]] + rows[at + 1:]


def mixed(head, one, other):
    """Return the product of two vectors, less what they share with others, times the square of the others' volume."""
    return determinant([[dot(row, column) for column in head + [other]] for row in head + [one]])


def nearest(part, whole):
    """Return the integer that is nearest to a fraction with a positive denominator."""
    return (2 * part + whole) // (2 * whole)
