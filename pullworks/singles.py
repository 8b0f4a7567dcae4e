"""The tapes of nodes with one input that do not go on pulling it, however long it takes.

Each function takes the node, the tape of its input, and the tape of the node, to which it adds all pulls.
"""

from pullworks.lines import differences, first_passing_at, least_of, less, residue_lines, value_at
from pullworks.tapes import ONE, Reader, read


def scale(node, lower, tape):
    """Give a * x + b."""
    a, b = node[2]
    for stretch in lower.stretches:
        if stretch.what == "item":
            lines = [(a * value + b, a * growth) for value, growth in stretch.lines]
            tape.give(stretch.many, lines, [ONE] * len(lines))
        else:
            tape.pass_on(stretch, ONE)


def table(node, lower, tape):
    """Give the item of the list to which x leads."""
    items = node[2][0]
    for stretch in lower.stretches:
        if stretch.what == "item":
            lines = residue_lines(stretch.many, stretch.lines, len(items))
            tape.give(stretch.many, [(items[value % len(items)], 0) for value, _ in lines], [ONE] * len(lines))
        else:
            tape.pass_on(stretch, ONE)


def until(node, lower, tape):
    """Give the items up to the first one that does not pass."""
    failing = ("not", node[2][0])
    for stretch in lower.stretches:
        if stretch.what != "item":
            tape.pass_on(stretch, ONE)
            continue
        many = first_passing_at(stretch.many, stretch.lines, failing)
        tape.give(stretch.many if many is None else many, stretch.lines, [ONE] * len(stretch.lines))
        if many is not None:
            tape.end(ONE)
            return


def take(node, lower, tape):
    """Give so many items, and whatever is no item among them."""
    left = node[2][0]
    for stretch in lower.stretches:
        if left == 0:
            break
        if stretch.what == "item":
            many = least_of([stretch.many, left])
            tape.give(many, stretch.lines, [ONE] * len(stretch.lines))
            left -= many
        else:
            tape.pass_on(stretch, ONE)
    if not tape.is_finished():
        tape.end(())


def pairs(node, lower, tape):
    """Give each item minus the item before."""
    last = None
    lost = 0
    for stretch in lower.stretches:
        if stretch.what != "item":
            tape.pass_on(stretch, read(lost + 1))
            lost = 0
            continue
        if last is None:
            lost += 1
        else:
            tape.give(1, [(stretch.lines[0][0] - last, 0)], [read(lost + 1)])
            lost = 0
        rest = less(stretch.many, 1)
        if rest != 0:
            lines = differences(stretch.lines, rest)
            tape.give_behind(read(lost + 1), rest, lines, [ONE] * len(lines))
            lost = 0
        if stretch.many is not None:
            last = value_at(stretch.lines, rest)


def stutter(node, lower, tape):
    """Give each item so many times; an error only once."""
    many = node[2][0]
    for stretch in lower.stretches:
        if stretch.what == "item":
            lines = [line for line in stretch.lines for _ in range(many)]
            uses = [use for _ in stretch.lines for use in [ONE] + [()] * (many - 1)]
            tape.give(None if stretch.many is None else stretch.many * many, lines, uses)
        else:
            tape.pass_on(stretch, ONE)


def dying(node, lower, tape):
    """Give all results up to the first error."""
    for stretch in lower.stretches:
        give_same(stretch, tape)
        if stretch.what == "error":
            tape.end(())
            return


def calm(node, lower, tape):
    """Give no errors: end at the first one, or leave them out."""
    lost = 0
    for stretch in lower.stretches:
        if stretch.what == "error" and node[2][0] == "stop":
            tape.end(ONE)
            return
        if stretch.what == "error":
            lost += 1
        elif stretch.what == "item":
            tape.give_behind(read(lost + 1), stretch.many, stretch.lines, [ONE] * len(stretch.lines))
            lost = 0
        else:
            tape.pass_on(stretch, read(lost + 1))


def same(node, lower, tape):
    """Give what the input gives: each port reads this tape for itself."""
    for stretch in lower.stretches:
        give_same(stretch, tape)


def give_same(stretch, tape):
    """Add a stretch of the input, one pull for each of its pulls."""
    if stretch.what == "item":
        tape.give(stretch.many, stretch.lines, [ONE] * len(stretch.lines))
    else:
        tape.pass_on(stretch, ONE)


def fault(node, lower, tape):
    """Raise the word in one pull, between the results of the input."""
    number, word = node[2]
    reader = Reader(lower)
    copy_pulls(reader, number, ONE, tape)
    if not tape.is_finished():
        tape.error(word, ())
        copy_pulls(reader, None, ONE, tape)


def copy_pulls(reader, many, use, tape):
    """Add so many results of the input, or fewer if it ends, each with the same use."""
    left = many
    while left != 0 and not tape.is_finished():
        taken = 1
        if reader.has_item():
            taken = least_of([reader.left(), left])
            lines = reader.look(taken)
            tape.give(taken, lines, [use] * len(lines))
        else:
            tape.pass_on(reader.here(), use)
        reader.skip(taken)
        left = less(left, taken)


def ahead(node, lower, tape):
    """Give the results of the input, which are read so many pulls earlier."""
    held = node[2][0]
    last = lower.stretches[-1]
    reader = Reader(lower)
    if last.what == "item":
        copy_pulls(reader, 1, read(held + 1), tape)
        copy_pulls(reader, None, ONE, tape)
    elif last.what == "never" and last.start <= held:
        tape.never(last.word, read(last.start + 1))
    elif last.what == "never":
        copy_pulls(reader, 1, read(held + 1), tape)
        copy_pulls(reader, last.start - held - 1, ONE, tape)
        tape.never(last.word, ONE)
    elif last.start == 0:
        tape.end(ONE)
    else:
        # The end is read held pulls before it is given.
        reading = min(max(last.start - held, 0), last.start - 1)
        copy_pulls(reader, 1, read(min(held, last.start) + 1), tape)
        copy_pulls(reader, reading, ONE, tape)
        copy_pulls(reader, last.start - 1 - reading, (), tape)
        tape.end(ONE if held == 0 else ())


SINGLES = {
    "scale": scale,
    "table": table,
    "until": until,
    "take": take,
    "pairs": pairs,
    "stutter": stutter,
    "ahead": ahead,
    "fault": fault,
    "dying": dying,
    "closing": dying,
    "calm": calm,
    "split": same,
}
