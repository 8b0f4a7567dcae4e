"""Steady items: lines of a value and its growth, gone through again and again.

An item stands on the line that its number modulo the number of lines tells. Each time that all lines have been gone
through, the value of a line has grown by its growth. Where there is no end of items, their number is None.
"""

from math import gcd, lcm

from pullworks.conditions import bound_of, holds, modulus_of


def least_of(numbers):
    """Return the least of some numbers, None if there is no end of any of them."""
    return min([number for number in numbers if number is not None], default=None)


def less(many, taken):
    """Return how many are left if some are taken away."""
    return None if many is None else many - taken


def value_at(lines, at):
    """Return the item with a number."""
    rounds, place = divmod(at, len(lines))
    value, growth = lines[place]
    return value + rounds * growth


def seen_from(lines, at, many):
    """Return the lines of so many items from a number on."""
    rounds, place = divmod(at, len(lines))
    size = least_of([len(lines), many])
    head = lines[place:place + size]
    tail = lines[:size - len(head)]
    turned = [(value + rounds * growth, growth) for value, growth in head]
    turned.extend([(value + (rounds + 1) * growth, growth) for value, growth in tail])
    return turned


def spread(lines, size):
    """Return the same items on so many lines; if these are not gone through evenly, they hold for one round only."""
    times, rest = divmod(size, len(lines))
    wide = [(value + turn * growth, growth * times) for turn in range(times) for value, growth in lines]
    wide.extend([(value + times * growth, 0) for value, growth in lines[:rest]])
    return wide


def side_by_side(rows, many):
    """Return the lines of several rows of so many items, spread to the same number of lines."""
    size = 1
    for lines in rows:
        size = lcm(size, len(lines))
    size = least_of([size, many])
    return [spread(lines, size) for lines in rows]


def differences(lines, many):
    """Return the lines of so many differences, each of an item and the one before it, from item number 1 on."""
    before = seen_from(lines, 0, many)
    behind = seen_from(lines, 1, many)
    return [(high[0] - low[0], high[1] - low[1]) for low, high in zip(before, behind)]


def sign_turn(value, growth):
    """Return the first round in which a line has ceased, or begun, to be negative; None if there is none."""
    if value < 0 and growth > 0:
        return (growth - 1 - value) // growth
    if value >= 0 and growth < 0:
        return value // -growth + 1
    return None


def zero_turns(value, growth):
    """Return the rounds in which a line begins and ceases to be zero; they may lie ahead of round 0."""
    if growth == 0 or value % growth != 0:
        return []
    turn = -value // growth
    return [turn, turn + 1]


def parts(many, lines, turns):
    """Cut so many items ahead of some rounds; return a list of tuples (many, lines)."""
    found = []
    start = 0
    for turn in sorted(set(turns)):
        at = turn * len(lines)
        if at > start and (many is None or at < many):
            found.append((at - start, seen_from(lines, start, at - start)))
            start = at
    rest = less(many, start)
    found.append((rest, seen_from(lines, start, rest)))
    return found


def residue_lines(many, lines, modulus):
    """Return so many items on lines each of which keeps its residue."""
    times = 1
    for _, growth in lines:
        times = lcm(times, residue_cycle(growth, modulus))
    return spread(lines, least_of([len(lines) * times, many]))


def residue_cycle(growth, modulus):
    """Return in how many rounds a line comes back to its residue."""
    return modulus // gcd(growth, modulus)


def tested_parts(many, lines, test):
    """Cut so many items until each line always or never passes a test; return a list of tuples (many, lines, flags)."""
    bound = bound_of(test)
    if bound is None:
        found = [(many, residue_lines(many, lines, modulus_of(test)))]
    else:
        turns = [sign_turn(value - bound, growth) for value, growth in lines]
        found = parts(many, lines, [turn for turn in turns if turn is not None])
    return [(number, part, [holds(test, value) for value, _ in part]) for number, part in found]


def first_passing_at(many, lines, test):
    """Return the number of the first of so many items that passes a test, None if none does."""
    found = []
    for place, (value, growth) in enumerate(lines):
        turn = first_turn(value, growth, test)
        if turn is not None:
            found.append(turn * len(lines) + place)
    first = min(found, default=None)
    if first is None or many is not None and first >= many:
        return None
    return first


def first_turn(value, growth, test):
    """Return the first round in which a line passes a test, None if there is none."""
    bound = bound_of(test)
    if bound is not None:
        return 0 if holds(test, value) else sign_turn(value - bound, growth)
    for turn in range(residue_cycle(growth, modulus_of(test))):
        if holds(test, value + turn * growth):
            return turn
    return None


def passing_among(many, lines, test):
    """Return how many of so many items, of which there is an end, pass a test."""
    passed = 0
    for place, (value, growth) in enumerate(lines):
        passed += passing_rounds(value, growth, test, rounds_of(many, lines, place))
    return passed


def rounds_of(many, lines, place):
    """Return how many of so many items stand on a line."""
    return (many - place + len(lines) - 1) // len(lines)


def passing_rounds(value, growth, test, rounds):
    """Return in how many of so many rounds a line passes a test."""
    bound = bound_of(test)
    if bound is not None:
        ahead = least_of([sign_turn(value - bound, growth), rounds])
        return ahead if holds(test, value) else rounds - ahead
    flags = [holds(test, value + turn * growth) for turn in range(residue_cycle(growth, modulus_of(test)))]
    cycles, rest = divmod(rounds, len(flags))
    return cycles * flags.count(True) + flags[:rest].count(True)


def greatest_among(many, lines):
    """Return the greatest of so many items, at least one on each line, and the number of the first one so great."""
    best = None
    for place, (value, growth) in enumerate(lines):
        turn = rounds_of(many, lines, place) - 1 if growth > 0 else 0
        item, at = value + turn * growth, turn * len(lines) + place
        if best is None or item > best[0] or item == best[0] and at < best[1]:
            best = (item, at)
    return best
