"""The tapes of nodes with several inputs.

Each function takes the node, the tapes of its inputs, and the tape of the node, to which it adds all pulls.
"""

from math import gcd, lcm

from pullworks.lines import least_of, residue_lines, side_by_side, value_at
from pullworks.tapes import Reader


def chained(node, lower, tape):
    """Give the results of one input after another."""
    ended = ()
    for place, part in enumerate(lower):
        use = ((place, 1),)
        for stretch in part.stretches:
            if stretch.what == "item":
                tape.give_behind(ended + use, stretch.many, stretch.lines, [use] * len(stretch.lines))
                ended = ()
            elif stretch.what == "end":
                ended = ended + use
            else:
                tape.pass_on(stretch, ended + use)
                ended = ()
        if tape.is_finished():
            return
    tape.end(ended)


def joined(how, values):
    """Return the first, the last, or the sum of some values."""
    if how == "first":
        return values[0]
    if how == "last":
        return values[-1]
    return sum(values)


def joined_lines(how, rows):
    """Return the lines that join the lines of some rows, which are as many in each."""
    found = []
    for parts in zip(*rows):
        value = joined(how, [value for value, _ in parts])
        found.append((value, joined(how, [growth for _, growth in parts])))
    return found


def least_left(readers):
    """Return for how many pulls all readers go on as here, None for no end of them."""
    return least_of([reader.left() for reader in readers])


def skip_all(readers, many):
    """Let all readers go on by so many pulls."""
    for reader in readers:
        reader.skip(many)


def together(node, lower, tape):
    """Give what joins an item of each input."""
    how = node[2][0]
    readers = [Reader(part) for part in lower]
    use = tuple([(place, 1) for place in range(len(lower))])
    while not tape.is_finished():
        if all([reader.has_item() for reader in readers]):
            many = least_left(readers)
            lines = joined_lines(how, side_by_side([reader.look(many) for reader in readers], many))
            tape.give(many, lines, [use] * len(lines))
            skip_all(readers, many)
        else:
            fail_together(readers, tape)


def fail_together(readers, tape):
    """Add a pull in which one of the inputs gives no item."""
    for place, reader in enumerate(readers):
        stretch = reader.here()
        if stretch.what != "item":
            tape.pass_on(stretch, tuple([(other, 1) for other in range(place + 1)]))
            skip_all(readers[:place + 1], 1)
            return


def longest(node, lower, tape):
    """Give what joins an item of each input, with another item for those that have ended."""
    fill, how = node[2]
    readers = [Reader(part) for part in lower]
    active = list(range(len(lower)))
    while not tape.is_finished():
        reading = [readers[place] for place in active]
        if all([reader.has_item() for reader in reading]):
            many = least_left(reading)
            rows = [reader.look(many) if place in active else [(fill, 0)] for place, reader in enumerate(readers)]
            lines = joined_lines(how, side_by_side(rows, many))
            tape.give(many, lines, [tuple([(place, 1) for place in active])] * len(lines))
            skip_all(reading, many)
        else:
            active = fill_up(node, readers, active, tape)


def fill_up(node, readers, active, tape):
    """Add a pull in which one of the inputs gives no item; return the places of those that have not ended."""
    fill, how = node[2]
    values = [fill] * len(readers)
    use = ()
    ended = []
    for place in active:
        stretch = readers[place].here()
        use = use + ((place, 1),)
        if stretch.what == "item":
            values[place] = readers[place].look(1)[0][0]
        elif stretch.what == "end":
            ended.append(place)
        else:
            tape.pass_on(stretch, use)
        readers[place].skip(1)
        if stretch.what in ("error", "never"):
            return [other for other in active if other not in ended]
    left = [other for other in active if other not in ended]
    if left:
        tape.give(1, [(joined(how, values), 0)], [use])
    else:
        tape.end(use)
    return left


def by_turns(node, lower, tape):
    """Give a result of each input in turn; the first one in the list of places is the next one to be pulled."""
    readers = [Reader(part) for part in lower]
    order = list(range(len(lower)))
    while not tape.is_finished():
        reading = [readers[place] for place in order]
        if all([reader.has_item() for reader in reading]):
            many = least_left(reading)
            rows = side_by_side([reader.look(many) for reader in reading], many)
            lines = [line for parts in zip(*rows) for line in parts]
            uses = [((place, 1),) for place in order] * len(rows[0])
            tape.give(None if many is None else many * len(order), lines, uses)
            skip_all(reading, many)
        else:
            order = take_turn(readers, order, tape)


def take_turn(readers, order, tape):
    """Add one pull; return the order behind it."""
    use = ()
    for at, place in enumerate(order):
        reader = readers[place]
        stretch = reader.here()
        use = use + ((place, 1),)
        if stretch.what == "end":
            continue
        if stretch.what == "item":
            tape.give(1, reader.look(1), [use])
        else:
            tape.pass_on(stretch, use)
        reader.skip(1)
        return order[at + 1:] + [place]
    tape.end(use)
    return []


def chosen(node, lower, tape):
    """Give a result of the input to which the item of the control leads."""
    control = Reader(lower[0])
    readers = [Reader(part) for part in lower[1:]]
    while not tape.is_finished():
        stretch = control.here()
        if not control.has_item():
            tape.pass_on(stretch, ((0, 1),))
            control.skip(1)
            continue
        many = control.left()
        lines = residue_lines(many, control.look(many), len(readers))
        picks = [value % len(readers) for value, _ in lines]
        rounds = whole_rounds(many, picks, readers)
        if rounds != 0:
            choose_rounds(rounds, picks, readers, tape)
            control.skip(None if rounds is None else rounds * len(picks))
        else:
            control.skip(choose_some(picks, readers, tape))


def whole_rounds(many, picks, readers):
    """Return how often all picks in turn lead to items of the same stretches, None for no end of it."""
    found = [None if many is None else many // len(picks)]
    for place, reader in enumerate(readers):
        each = picks.count(place)
        if each > 0:
            left = reader.left() if reader.has_item() else 0
            found.append(None if left is None else left // each)
    return least_of(found)


def choose_rounds(rounds, picks, readers, tape):
    """Add so many rounds of picks, all of which lead to items."""
    rows = [reader.look(reader.left()) if place in picks else [] for place, reader in enumerate(readers)]
    period = 1
    for place, lines in enumerate(rows):
        if lines:
            period = lcm(period, len(lines) // gcd(len(lines), picks.count(place)))
    taken = [0] * len(rows)
    lines = []
    for _ in range(least_of([period, rounds])):
        for pick in picks:
            row = rows[pick]
            growth = row[taken[pick] % len(row)][1] * (period * picks.count(pick) // len(row))
            lines.append((value_at(row, taken[pick]), growth))
            taken[pick] += 1
    uses = [((0, 1), (pick + 1, 1)) for pick in picks] * (len(lines) // len(picks))
    tape.give(None if rounds is None else rounds * len(picks), lines, uses)
    for place, reader in enumerate(readers):
        if place in picks:
            reader.skip(None if rounds is None else rounds * picks.count(place))


def choose_some(picks, readers, tape):
    """Add the pulls of the picks up to the first one that gives no item; return how many pulls these are."""
    for number, pick in enumerate(picks):
        reader = readers[pick]
        stretch = reader.here()
        use = ((0, 1), (pick + 1, 1))
        if stretch.what == "item":
            tape.give(1, reader.look(1), [use])
        else:
            tape.pass_on(stretch, use)
        reader.skip(1)
        if stretch.what != "item":
            return number + 1
    return len(picks)


JOINERS = {
    "chain": chained,
    "zip": together,
    "longest": longest,
    "turns": by_turns,
    "choose": chosen,
}
